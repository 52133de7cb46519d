"""[55] Webs renamed, beside one another, without some ties, a part alone; their standings."""

import unittest

from giveback.changes import (alone, alone_standing, beside, beside_standing, renamed, renamed_standing, without)
from giveback.errors import NoPart, NoStanding, NoTie, NoWeb
from giveback.webs import Web
from helping import THINGS, drawn, nought, random_web, refusal, row_ties, same, seeded, side_by_side, slow_beat


def back_order(order):
    """The order that renames back."""
    return tuple(order.index(post) for post in range(len(order)))


class TestRenamed(unittest.TestCase):

    def test_each_cord_leads_as_ahead(self):
        chance = seeded(70)
        for size in range(1, 13):
            for _ in range(6):
                web = random_web(chance, size)
                order = tuple(chance.sample(range(size), size))
                told = renamed(web, order)
                self.assertIs(type(told), Web)
                self.assertEqual(len(told), size)
                for one in range(size):
                    for other in range(size):
                        same(self, told.cords(order[one], order[other]), web.cords(one, other))
                self.assertTrue(renamed(told, back_order(order)) == web)
                self.assertTrue(renamed(web=web, order=order) == told)
                self.assertTrue(renamed(web, tuple(range(size))) == web)

    def test_standings_run_alike(self):
        chance = seeded(71)
        for size in range(1, 13):
            web = random_web(chance, size)
            order = tuple(chance.sample(range(size), size))
            standing = drawn(chance, size, 10 ** 27)
            told = renamed_standing(web, standing, order)
            for row, own in zip(told, standing):
                self.assertIs(type(row), tuple)
                same(self, [row[order[post]] for post in range(size)], list(own))
            same(self, renamed_standing(web=web, standing=standing, order=order), told)
            same(self, renamed_standing(renamed(web, order), told, back_order(order)), standing)
            same(self, renamed_standing(web, slow_beat(web, standing), order), slow_beat(renamed(web, order), told))

    def test_by_hand(self):
        web = Web(3, [(0, 1, 2, 3), (1, 2, 4, 5)])
        same(self, renamed(web, (2, 0, 1)).ties(), [(0, 1, 4, 5), (0, 2, 3, 2)])
        same(self, renamed_standing(web, ((1, 2, 3), (4, 5, 6)), (2, 0, 1)), ((2, 3, 1), (5, 6, 4)))
        top = ((10 ** 30, -10 ** 30), (0, 10 ** 30))
        same(self, renamed_standing(Web(2, []), top, (1, 0)), (top[0][::-1], top[1][::-1]))

    def test_no_standing(self):
        web = Web(2, [(0, 1, 2, 3)])
        for thing in THINGS:
            same(self, refusal(self, NoStanding, renamed_standing, web, thing, (1, 0)).part, "standing")
        same(self, refusal(self, NoStanding, renamed_standing, web, ((0, 0), (0, True)), (1, 0)).part, "numbers")


class TestBeside(unittest.TestCase):

    def test_webs_of_up_to_twelve_posts(self):
        chance = seeded(72)
        for low in range(1, 12):
            for high in range(1, 13 - low):
                one, other = random_web(chance, low), random_web(chance, high)
                told = beside(one, other)
                self.assertIs(type(told), Web)
                moved = [(k + low, m + low, there, back) for k, m, there, back in other.ties()]
                same(self, (len(told), told.ties()), (low + high, one.ties() + moved))
                self.assertTrue(beside(one=one, other=other) == told)
                first, second = drawn(chance, low, 10 ** 30), drawn(chance, high, 10 ** 30)
                both = beside_standing(one, first, other, second)
                same(self, both, (first[0] + second[0], first[1] + second[1]))
                same(self, beside_standing(one=one, standing=first, other=other, more=second), both)
                same(self, slow_beat(told, both), beside_told(slow_beat(one, first), slow_beat(other, second)))

    def test_a_web_beside_itself(self):
        web = Web(2, [(0, 1, 2, 3)])
        same(self, beside(web, web).ties(), [(0, 1, 2, 3), (2, 3, 2, 3)])
        same(self, web.ties(), [(0, 1, 2, 3)])

    def test_more_than_twelve(self):
        for low, high in ((1, 12), (12, 1), (6, 7), (12, 12)):
            one, other = Web(low, []), Web(high, [])
            same(self, refusal(self, NoWeb, beside, one, other).part, "size")
            same(self, refusal(self, NoWeb, beside_standing, one, nought(one), other, nought(other)).part, "size")

    def test_refused_in_their_order(self):
        one, other = Web(6, []), Web(7, [])
        bad = ((0,) * 6, (None,) * 6)
        for thing in THINGS:
            same(self, refusal(self, NoStanding, beside_standing, one, thing, other, bad).part, "standing")
            same(self, refusal(self, NoStanding, beside_standing, one, bad, other, thing).part, "numbers")
            same(self, refusal(self, NoStanding, beside_standing, one, nought(one), other, thing).part, "standing")
        wrong = ((0,) * 7, (10 ** 30 + 1,) * 7)
        same(self, refusal(self, NoStanding, beside_standing, one, nought(one), other, wrong).part, "numbers")
        same(self, refusal(self, NoStanding, beside_standing, one, nought(other), other, nought(one)).part, "standing")


def beside_told(first, second):
    """Two standings as one."""
    return tuple(one + other for one, other in zip(first, second))


class TestWithout(unittest.TestCase):

    def test_some_none_and_all_ties(self):
        chance = seeded(73)
        for _ in range(60):
            web = random_web(chance, chance.randint(2, 12))
            pairs = [tied[:2] for tied in web.ties()]
            for many in {0, len(pairs) // 2, len(pairs)}:
                cut = chance.sample(pairs, many)
                told = without(web, cut)
                self.assertIs(type(told), Web)
                same(self, told.ties(), [tied for tied in web.ties() if tied[:2] not in cut])
                self.assertEqual(len(told), len(web))
                self.assertTrue(without(web=web, pairs=tuple(cut)) == told)
                self.assertTrue(without(web, cut + cut[:1]) == told)
                same(self, [tied[:2] for tied in web.ties()], pairs)

    def test_no_tie(self):
        web = Web(4, [(0, 1, 1, 2), (1, 3, 2, 2)])
        bad = [
            (1, 0), (3, 1), (0, 2), (2, 3), (0, 0), (1, 1), (False, 1), (0, True), (True, 3), (0, 4), (-1, 1), (3, 4),
            (0, 1, 1, 2), (0, 1, 1), [0, 1], {0: 1}, (0, None), ("0", "1"), ((0, 1),), "01",
        ]
        for thing in bad + [thing for thing in THINGS if repr(thing) != "(0, 1)"]:
            for pairs in ([thing], [(0, 1), thing], [(1, 3), (0, 1), thing, (9, 9)], (thing, None)):
                same(self, refusal(self, NoTie, without, web, pairs).tie, thing)

    def test_no_list(self):
        web = Web(4, [(0, 1, 1, 2), (1, 3, 2, 2)])
        for thing in [thing for thing in THINGS if not isinstance(thing, (list, tuple))] + [{(0, 1): 1}, "0 1", 5]:
            same(self, refusal(self, NoTie, without, web, thing).tie, None)
        self.assertTrue(without(web, ()) == web)
        self.assertTrue(without(web, []) == web)


class TestAlone(unittest.TestCase):

    def test_each_part(self):
        chance = seeded(74)
        sizes = set()
        for _ in range(80):
            web = random_web(chance, chance.randint(1, 12), -4)
            standing = drawn(chance, len(web), 10 ** 30)
            behind = slow_beat(web, standing)
            for posts in web.parts():
                told = alone(web, posts)
                self.assertIs(type(told), Web)
                self.assertEqual(len(told), len(posts))
                sizes.add(len(posts))
                for one, high in enumerate(posts):
                    for other, low in enumerate(posts):
                        same(self, told.cords(one, other), web.cords(high, low))
                there = alone_standing(web, standing, posts)
                same(self, there, tuple(tuple(row[post] for post in posts) for row in standing))
                same(self, slow_beat(told, there), tuple(tuple(row[post] for post in posts) for row in behind))
                self.assertTrue(alone(web=web, posts=tuple(posts)) == told)
                same(self, alone_standing(web=web, standing=standing, posts=tuple(posts)), there)
        self.assertGreater(len(sizes), 6)

    def test_by_hand(self):
        web = Web(5, [(0, 3, 2, 3), (3, 4, 4, 5)])
        same(self, alone(web, [0, 3, 4]).ties(), [(0, 1, 2, 3), (1, 2, 4, 5)])
        same(self, alone(web, [2]).ties(), [])
        same(self, alone_standing(web, ((1, 2, 3, 4, 5), (6, 7, 8, 9, 10)), (0, 3, 4)), ((1, 4, 5), (6, 9, 10)))
        same(self, alone_standing(web, ((1, 2, 3, 4, 5), (6, 7, 8, 9, 10)), [2]), ((3,), (8,)))

    def test_posts_numbered_anyhow(self):
        chance = seeded(75)
        for _ in range(20):
            web = side_by_side([(5, row_ties([0, 1, 2, 3, 4])), (3, row_ties([0, 1, 2])), (1, []), (3, [])], chance)
            for posts in web.parts():
                self.assertEqual(len(alone(web, posts).parts()), 1)

    def test_refused_in_their_order(self):
        web = Web(4, [(0, 3, 1, 2)])
        good = nought(web)
        for thing in [thing for thing in THINGS if repr(thing) != "[1]"] + [[0], [3, 0], [False, 3], (0, 3, 3), {0: 3}]:
            same(self, refusal(self, NoPart, alone, web, thing).posts, thing)
            same(self, refusal(self, NoPart, alone_standing, web, good, thing).posts, thing)
            same(self, refusal(self, NoStanding, alone_standing, web, None, thing).part, "standing")
            same(self, refusal(self, NoStanding, alone_standing, web, (good[0], (True,) * 4), thing).part, "numbers")
        for thing in THINGS:
            same(self, refusal(self, NoStanding, alone_standing, web, thing, [0, 3]).part, "standing")


if __name__ == "__main__":
    unittest.main()
