"""[30] Shapes and orders. [31] Homes, turnings and home beats."""

import unittest
from math import lcm

from giveback.errors import NoPart, NotAll
from giveback.shapes import home_beats, home_of, shape_of
from giveback.webs import Web
from helping import (SHAPES, THINGS, drawn, none_ties, refusal, row_ties, same, seeded, shape_ties, shape_webs,
                     shuffled, side_by_side, slow_run, waves_ties)

TURNS = {("arms", 6): 14, ("arms", 7): 20, ("arms", 8): 32, ("middle", 4): 14, ("three", 2): 8}


def turning_by_hand(word, order):
    """(beats, turning) of a shape, straight by the words of [31]."""
    size = len(order)
    turned = list(order)
    if word == "row":
        beats = size + 3
        turned = turned[::-1]
    elif word == "end":
        beats = 2 * size + 2
    elif word == "fork":
        beats = 2 * size
        if size % 2:
            turned[-2:] = [turned[-1], turned[-2]]
    else:
        beats = TURNS[(word, size)]
        if size == 6:
            turned[2:6] = [turned[4], turned[5], turned[2], turned[3]]
    return beats, tuple(turned[order.index(post)] for post in sorted(order))


class TestShapes(unittest.TestCase):

    def test_word_and_order_tell_the_ties(self):
        chance = seeded(23)
        for _ in range(5):
            for word, order, web in shape_webs(chance):
                told, found = shape_of(web, sorted(order))
                self.assertEqual([type(told), type(found)], [str, tuple])
                same(self, told, word)
                same(self, sorted(found), sorted(order))
                pairs = {frozenset(tied[:2]): tied[2] * tied[3] for tied in web.ties()}
                wanted = {frozenset(tied[:2]): tied[2] * tied[3] for tied in shape_ties(told, found)}
                self.assertEqual(pairs, wanted)
                same(self, shape_of(web, tuple(sorted(order))), (told, found))

    def test_by_hand(self):
        same(self, shape_of(Web(2, []), [1]), ("row", (1,)))
        self.assertIn(shape_of(Web(2, [(0, 1, 1, 1)]), [0, 1]), [("row", (0, 1)), ("row", (1, 0))])
        self.assertIn(shape_of(Web(2, [(0, 1, 1, 2)]), [0, 1]), [("end", (0, 1)), ("end", (1, 0))])
        self.assertIn(shape_of(Web(2, [(0, 1, 3, 1)]), [0, 1]), [("three", (0, 1)), ("three", (1, 0))])
        same(self, shape_of(Web(3, [(0, 1, 1, 2), (1, 2, 1, 1)]), (0, 1, 2)), ("end", (2, 1, 0)))
        same(self, shape_of(Web(3, [(0, 1, 1, 1), (1, 2, 2, 1)]), (0, 1, 2)), ("end", (0, 1, 2)))

    def test_a_part_beside_others(self):
        chance = seeded(24)
        for _ in range(20):
            fork = (4, shape_ties("fork", [0, 1, 2, 3]))
            web = side_by_side([fork, (2, [(0, 1, 2, 2)]), (2, [(0, 1, 1, 3)]), (1, [])], chance)
            words = {4: "fork", 1: "row"}
            for part in web.parts():
                if len(part) == 2 and web.cords(*part) * web.cords(*part[::-1]) == 4:
                    for posts in (part, tuple(part)):
                        same(self, refusal(self, NotAll, shape_of, web, posts).posts, tuple(part))
                        same(self, refusal(self, NotAll, home_of, web, posts).posts, tuple(part))
                else:
                    same(self, shape_of(web=web, posts=part)[0], words.get(len(part), "three"))

    def test_not_all(self):
        chance = seeded(25)
        for size, ties in waves_ties() + none_ties():
            web = shuffled(size, ties, chance)
            for posts in (list(range(size)), tuple(range(size))):
                for call in (shape_of, home_of):
                    same(self, refusal(self, NotAll, call, web, posts).posts, tuple(range(size)))

    def test_no_part(self):
        webs = [Web(3, [(0, 2, 1, 1)]), Web(3, [(0, 2, 5, 5)])]
        for web in webs:
            for thing in [[0], [2, 0], (0, 1, 2), [0, 2, 2], [False, 2], {0: 1}, "02"] + THINGS:
                for call in (shape_of, home_of):
                    same(self, refusal(self, NoPart, call, web, thing).posts, thing)


class TestHomes(unittest.TestCase):

    def test_homes_as_the_words_say(self):
        chance = seeded(26)
        for word, order, web in shape_webs(chance):
            posts = sorted(order)
            told = home_of(web, posts)
            self.assertEqual([type(told), type(told[0]), type(told[1])], [tuple, int, tuple])
            beats, turning = told
            same(self, told, turning_by_hand(word, order))
            same(self, home_of(web=web, posts=tuple(posts)), told)
            same(self, home_beats(web), beats if list(turning) == posts else 2 * beats)

    def test_homes_beside_beats(self):
        chance = seeded(27)
        for word, order, web in shape_webs(chance):
            beats, turning = home_of(web, sorted(order))
            for most in (1, 2, 10, 10 ** 30):
                standing = drawn(chance, len(web), most)
                run = slow_run(web, standing, 2 * beats)
                for row in (0, 1):
                    same(self, run[beats][row], tuple(standing[row][post] for post in turning))
                same(self, slow_run(web, standing, home_beats(web))[-1], standing)

    def test_home_beats_are_the_least(self):
        for word, order, web in shape_webs(seeded(28)):
            size = len(web)
            home = home_beats(web)
            still = [True] * (home + 1)
            for post in range(size):
                single = ((0,) * size, tuple(-int(k == post) for k in range(size)))
                run = slow_run(web, single, home)
                still = [so and here == single for so, here in zip(still, run)]
            self.assertEqual([beat for beat, so in enumerate(still) if so], [0, home], (word, order))

    def test_numbers_by_hand(self):
        wanted = {
            ("row", 1): 4, ("row", 2): 10, ("row", 12): 30, ("end", 2): 6, ("end", 12): 26, ("fork", 4): 8,
            ("fork", 5): 20, ("fork", 12): 24, ("arms", 6): 28, ("arms", 7): 20, ("arms", 8): 32, ("middle", 4): 14,
            ("three", 2): 8,
        }
        for (word, size), beats in wanted.items():
            self.assertIn((word, size), SHAPES)
            same(self, home_beats(Web(size, shape_ties(word, list(range(size))))), beats)

    def test_webs_of_several_parts(self):
        chance = seeded(29)
        for _ in range(40):
            chosen = []
            left = 12
            while left:
                word, size = chance.choice([shape for shape in SHAPES if shape[1] <= left])
                chosen.append((size, shape_ties(word, list(range(size)), chance.random() < 0.5)))
                left -= size
            web = side_by_side(chosen, chance)
            alone = [home_beats(Web(size, ties)) for size, ties in chosen]
            same(self, home_beats(web=web), lcm(*alone))
            standing = drawn(chance, 12, 10 ** 9)
            for part in web.parts():
                beats, turning = home_of(web, part)
                run = slow_run(web, standing, beats)
                for row in (0, 1):
                    same(self, [run[-1][row][post] for post in part], [standing[row][post] for post in turning])

    def test_the_first_part_that_is_not_all(self):
        web = Web(7, [(0, 5, 1, 1), (1, 6, 3, 2), (2, 3, 2, 2)])
        same(self, refusal(self, NotAll, home_beats, web).posts, (1, 6))
        same(self, refusal(self, NotAll, home_beats, Web(3, row_ties([0, 1, 2]) + [(0, 2, 1, 1)])).posts, (0, 1, 2))


if __name__ == "__main__":
    unittest.main()
