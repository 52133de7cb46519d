"""[56] Webs folded by lots, standings folded to the lots and spread over them."""

import unittest
from itertools import product

from giveback.errors import NoLots, NoStanding, NotAlike, NoWeb
from giveback.folds import folded, folded_standing, spread_standing
from giveback.webs import Web
from helping import (THINGS, drawn, nought, random_web, refusal, relabelled, row_ties, same, seeded, shape_ties,
                     slow_behind, star, tie, whole_throughout)

# Lots that can't be told in any web, and lots that are none in a web of three posts, row and all.
NO_LOTS = [
    [[0], [1]], [[0, 1], [1, 2]], [[0], [1], [2], [2]], [[0, 0], [1], [2]], [[0], [], [1, 2]], [[0], [1], [2], []], [[]],
    [[0], [1], [2], [3]], [[0], [1], [-1]], [[0, 1, 3]], [[False], [1], [2]], [[0], [True], [2]], [[0, True, 2]],
    [[0], [1], ["2"]], [[0], [1], [None]], [[0], [1], 2], [0, 1, 2], [[0, 1], 2], [[[0]], [[1]], [[2]]], ["012"], [{0: 1}],
    {0: [0, 1, 2]}, [[0, 1, 2], None], "012", 3, [[0], [1], [10 ** 999]], ([0], [1], {2: 2}), [[0], [1], [(2,)]],
]


def twins():
    """(size, ties, lots) of webs made of lots of posts that get alike."""
    found = [(size, row_ties(list(range(size))), halves(size)) for size in range(3, 13, 2)]
    for size in range(4, 13):
        alone = [[post] for post in range(size - 2)]
        found.append((size, shape_ties("fork", list(range(size))), alone + [[size - 2, size - 1]]))
    found.append((4, shape_ties("fork", [0, 1, 2, 3]), [[1], [0, 2, 3]]))
    found.append((6, shape_ties("arms", [0, 1, 2, 3, 4, 5]), [[0], [1], [2, 4], [3, 5]]))
    for size in range(3, 13):
        ring = row_ties(list(range(size))) + [tie(0, size - 1)]
        # Mirrored about post 0; where the posts are odd two neighbours are mirrored, which are tied.
        if size % 2 == 0:
            found.append((size, ring, [[0]] + [[k, size - k] for k in range(1, size // 2)] + [[size // 2]]))
        for turn in range(2, size):
            if size % turn == 0:
                found.append((size, ring, [list(range(k, size, turn)) for k in range(turn)]))
    for size, ties in ((3, row_ties([0, 1, 2])), (2, [(0, 1, 9, 7)]), (6, [(0, 5, 2, 3), (1, 2, 1, 1), (2, 3, 4, 1)])):
        twice = ties + [(one + size, other + size, there, back) for one, other, there, back in ties]
        found.append((2 * size, twice, [[k, k + size] for k in range(size)]))
    found.append((7, star((1,) * 6)[1], [[0], [1, 2, 3, 4, 5, 6]]))
    found.append((3, [(0, 1, 2, 3), (0, 2, 2, 3)], [[0], [1, 2]]))
    found.append((4, [(0, 2, 1, 2), (0, 3, 3, 1), (1, 2, 3, 1), (1, 3, 1, 2)], [[0, 1], [2, 3]]))
    found.append((12, [], [list(range(12))]))
    return found


def halves(size):
    """A row folded in the midst: each post with the one as far from the other end."""
    return [[post, size - 1 - post] for post in range(size // 2)] + [[size // 2]]


def twin_webs(chance):
    """(web, lots) of these, posts numbered anyhow, lots and their posts in any order."""
    for size, ties, lots in twins():
        order = list(range(size))
        chance.shuffle(order)
        named = [[order[post] for post in chance.sample(lot, len(lot))] for lot in lots]
        yield relabelled(size, ties, order), chance.sample(named, len(named))


def leading(web, lot, post):
    """How many cords lead from all of a lot to a post."""
    return sum(web.cords(one, post) for one in lot)


def first_fault(web, lots):
    """The places of the first two lots that can't be folded, by the words of [56]; None where all can."""
    for one, other in product(range(len(lots)), repeat=2):
        many = {leading(web, lots[one], post) for post in lots[other]}
        if one == other and any(web.cords(low, high) for low in lots[one] for high in lots[one]):
            return one, other
        if one != other and len(many) > 1:
            return one, other
    return None


def drawn_lots(chance, size):
    """Lots of all posts, drawn."""
    many = chance.randint(1, size)
    lots = [[] for _ in range(many)]
    for post in chance.sample(range(size), size):
        lots[chance.randrange(many)].append(post)
    return [lot for lot in lots if lot]


def spread(web, lots, standing):
    """A standing of the lots on all posts."""
    at = {post: place for place, lot in enumerate(lots) for post in lot}
    return tuple(tuple(row[at[post]] for post in range(len(web))) for row in standing)


class TestFolded(unittest.TestCase):

    def test_lots_of_posts_that_get_alike(self):
        chance = seeded(220)
        for _ in range(3):
            for web, lots in twin_webs(chance):
                told = folded(web, lots)
                self.assertIs(type(told), Web)
                self.assertEqual(len(told), len(lots))
                for one, other in product(range(len(lots)), repeat=2):
                    for post in lots[other]:
                        same(self, told.cords(one, other), leading(web, lots[one], post))
                other = tuple(chance.choice((list, tuple))(lot) for lot in lots)
                self.assertTrue(folded(lots=other, web=web) == told)

    def test_each_post_a_lot_by_itself(self):
        chance = seeded(221)
        for size in range(1, 13):
            web = random_web(chance, size)
            self.assertTrue(folded(web, [[post] for post in range(size)]) == web)
            order = chance.sample(range(size), size)
            wanted = [tie(order.index(one), order.index(other), there, back) for one, other, there, back in web.ties()]
            same(self, folded(web, [[post] for post in order]).ties(), sorted(wanted))

    def test_by_hand(self):
        same(self, folded(Web(3, row_ties([0, 1, 2])), [[0, 2], [1]]).ties(), [(0, 1, 2, 1)])
        same(self, folded(Web(3, row_ties([0, 1, 2])), [[1], [2, 0]]).ties(), [(0, 1, 1, 2)])
        fork = Web(4, shape_ties("fork", [0, 1, 2, 3]))
        same(self, folded(fork, [[0], [1], [2, 3]]).ties(), [(0, 1, 1, 1), (1, 2, 1, 2)])
        same(self, folded(fork, [[1], [0, 2, 3]]).ties(), [(0, 1, 1, 3)])
        ring = Web(6, row_ties([0, 1, 2, 3, 4, 5]) + [(0, 5, 1, 1)])
        same(self, folded(ring, [[0, 3], [1, 4], [2, 5]]).ties(), [(0, 1, 1, 1), (0, 2, 1, 1), (1, 2, 1, 1)])
        same(self, folded(ring, [[0, 2, 4], [1, 3, 5]]).ties(), [(0, 1, 2, 2)])
        same(self, folded(Web(2, []), [[1, 0]]).ties(), [])

    def test_more_than_nine_cords(self):
        for many, wide in ((10, 1), (5, 2), (4, 3), (11, 9), (2, 5)):
            size = many + 1
            web = Web(size, [(0, post, 1, wide) for post in range(1, size)])
            lots = [[0], list(range(1, size))]
            if many * wide > 9:
                standing = drawn(seeded(222), size, 9)
                for ask, handed in ((folded, ()), (folded_standing, (standing,)), (spread_standing, (None,))):
                    for row in (lots, tuple(lots), lots[::-1], [(0,), lots[1][::-1]]):
                        same(self, refusal(self, NoWeb, ask, web, row, *handed).part, "ties")
        nine = Web(10, [(0, post, 1, 1) for post in range(1, 10)])
        same(self, folded(nine, [list(range(1, 10)), [0]]).ties(), [(0, 1, 9, 1)])
        nine = Web(4, [(0, post, 3, 9) for post in (1, 2, 3)])
        same(self, refusal(self, NoWeb, folded, nine, [[0], [1, 2, 3]]).part, "ties")
        nine = Web(4, [(0, post, 9, 3) for post in (1, 2, 3)])
        same(self, folded(nine, [[0], [1, 2, 3]]).ties(), [(0, 1, 9, 9)])


class TestNoLots(unittest.TestCase):

    def wrong(self, web, lots, one, other):
        standing = nought(web)
        for ask, handed in ((folded, ()), (folded_standing, (standing,)), (spread_standing, (standing,))):
            error = refusal(self, NoLots, ask, web, lots, *handed)
            same(self, (error.one, error.other), (one, other))
        error = refusal(self, NoLots, spread_standing, web, lots, None)
        same(self, (error.one, error.other), (one, other))

    def test_what_is_none(self):
        for web in (Web(3, row_ties([0, 1, 2])), Web(3, []), Web(3, [(0, 1, 9, 9), (0, 2, 9, 9), (1, 2, 9, 9)])):
            for thing in NO_LOTS + THINGS:
                self.wrong(web, thing, None, None)
        for thing in [thing for thing in THINGS if repr(thing) not in ("[[0]]", "((0,), (0,))")]:
            self.wrong(Web(1, []), thing, None, None)
        self.wrong(Web(1, []), ((0,), (0,)), None, None)
        self.assertTrue(folded(Web(1, []), [[0]]) == Web(1, []))

    def test_the_first_two_by_one_then_by_other(self):
        chance = seeded(223)
        seen = set()
        for _ in range(900):
            web = random_web(chance, chance.randint(2, 6), chance.randint(-3, 2), chance.choice((1, 2)))
            lots = drawn_lots(chance, len(web))
            fault = first_fault(web, lots)
            if fault is None:
                self.assertIs(type(folded(web, lots)), Web)
            else:
                self.wrong(web, lots, *fault)
                seen.add(fault)
        self.assertGreaterEqual(len(seen), 8)
        self.assertTrue({(0, 0), (0, 1), (1, 0), (1, 1)} <= seen)

    def test_by_hand(self):
        web = Web(4, [(0, 2, 1, 1), (1, 2, 1, 2), (2, 3, 1, 1)])
        # From post 2 as many cords lead to 0 as to 1, but not the other way about.
        self.wrong(web, [[0, 1], [2], [3]], 1, 0)
        self.wrong(web, [[2], [0, 1], [3]], 0, 1)
        self.wrong(web, [[3, 2], [0, 1]], 0, 0)
        self.wrong(web, [[0, 1], [3, 2]], 0, 1)
        self.wrong(web, [[0, 1, 3], [2]], 1, 0)
        self.wrong(Web(3, row_ties([0, 1, 2])), [[0, 1, 2]], 0, 0)
        self.wrong(Web(4, [(0, 1, 1, 1), (2, 3, 1, 1)]), [[0], [1], [2, 3]], 2, 2)
        # Each of two posts gets as many from its own lot: a tie lies within it all the same.
        self.wrong(Web(2, [(0, 1, 3, 3)]), [[0, 1]], 0, 0)

    def test_ahead_of_no_web(self):
        # More than nine cords lead from lot 0 to lot 1, and lot 2 has a tie within it.
        web = Web(12, [(0, post, 1, 1) for post in range(1, 11)] + [(10, 11, 1, 1)])
        self.wrong(web, [list(range(1, 10)), [0], [10, 11]], 1, 2)
        self.wrong(web, [list(range(1, 10)), [0], [10], [12]], None, None)


class TestStandings(unittest.TestCase):

    def test_there_and_back_again(self):
        chance = seeded(224)
        for web, lots in twin_webs(chance):
            for most in (1, 9, 10 ** 30):
                small = drawn(chance, len(lots), most)
                told = spread_standing(web, lots, small)
                self.assertTrue(whole_throughout(told))
                same(self, told, spread(web, lots, small))
                same(self, folded_standing(web, lots, told), small)
                other = tuple(tuple(lot) for lot in lots)
                same(self, spread_standing(standing=small, lots=other, web=web), told)
                same(self, folded_standing(standing=told, lots=other, web=web), small)

    def test_what_is_spread_runs_as_the_folded_runs(self):
        chance = seeded(225)
        for web, lots in twin_webs(chance):
            for most in (2, 10 ** 6):
                small = drawn(chance, len(lots), most)
                there = spread_standing(web, lots, small)
                for beats in (1, 2, 7, -1, -2, -7):
                    behind = slow_behind(folded(web, lots), small, beats)
                    same(self, slow_behind(web, there, beats), spread(web, lots, behind))

    def test_folded_standing_refuses_in_its_order(self):
        web = Web(12, [(0, post, 1, 1) for post in range(1, 12)])
        good = nought(web)
        unlike = (good[0], tuple(range(12)))
        greater = ((0,) * 11 + (10 ** 30 + 1,), good[1])
        for thing in THINGS:
            same(self, refusal(self, NoStanding, folded_standing, web, thing, thing).part, "standing")
        for lots in (None, [[0, 1], list(range(2, 12))], [[0], list(range(1, 12))], [[post] for post in range(12)]):
            same(self, refusal(self, NoStanding, folded_standing, web, lots, greater).part, "numbers")
        error = refusal(self, NoLots, folded_standing, web, [[0, 1], list(range(2, 12))], unlike)
        same(self, (error.one, error.other), (0, 0))
        same(self, refusal(self, NoWeb, folded_standing, web, [[0], list(range(1, 12))], unlike).part, "ties")
        nine = [[0], list(range(1, 10)), [10, 11]]
        same(self, refusal(self, NotAlike, folded_standing, web, nine, unlike).post, 2)

    def test_not_alike(self):
        web = Web(7, star((1,) * 6)[1])
        lots = [[3, 1, 6], [0], [2, 5, 4]]
        rows = (4, 7, 8, 7, 8, 8, 7)
        same(self, folded_standing(web, lots, (rows, rows)), ((7, 4, 8), (7, 4, 8)))
        for post, wanted in ((3, 1), (1, 1), (6, 6), (2, 5), (5, 5), (4, 4)):
            for which in (0, 1):
                other = tuple(number + (k == post) for k, number in enumerate(rows))
                standing = (other, rows) if which == 0 else (rows, other)
                same(self, refusal(self, NotAlike, folded_standing, web, lots, standing).post, wanted)
                both = tuple(number + 3 * (k == 4) for k, number in enumerate(other))
                standing = (both, rows) if which == 0 else (rows, both)
                first = 5 if post == 2 else wanted
                same(self, refusal(self, NotAlike, folded_standing, web, tuple(lots), standing).post, first)
        free = tuple(number + 5 * (k == 0) for k, number in enumerate(rows))
        same(self, folded_standing(web, lots, (free, rows)), ((7, 9, 8), (7, 4, 8)))
        # By the lots as they stand: unlike are 4 in the last lot and 6 in the first one.
        other = tuple(number + (k in (4, 6)) for k, number in enumerate(rows))
        same(self, refusal(self, NotAlike, folded_standing, web, lots, (other, rows)).post, 6)
        same(self, refusal(self, NotAlike, folded_standing, web, lots[::-1], (other, rows)).post, 4)

    def test_spread_standing_refuses_in_its_order(self):
        web = Web(12, [(0, post, 1, 1) for post in range(1, 12)])
        for thing in THINGS:
            error = refusal(self, NoLots, spread_standing, web, [[0, 1], list(range(2, 12))], thing)
            same(self, (error.one, error.other), (0, 0))
            same(self, refusal(self, NoWeb, spread_standing, web, [[0], list(range(1, 12))], thing).part, "ties")
        lots = [[0], [11, 10], list(range(1, 10))]
        for thing in THINGS + [nought(web), ((0, 0), (0, 0)), ((0,) * 3, [0] * 3)]:
            same(self, refusal(self, NoStanding, spread_standing, web, lots, thing).part, "standing")
        for bad in (True, None, 10 ** 30 + 1, "0"):
            for thing in (((0, 0, bad), (0, 0, 0)), ((0, 0, 0), (bad, 0, 0))):
                same(self, refusal(self, NoStanding, spread_standing, web, lots, thing).part, "numbers")


if __name__ == "__main__":
    unittest.main()
