"""[21] Halves, their worth and their steps."""

import unittest

from giveback.errors import NoPart, NoStanding
from giveback.kinds import kinds_of, steps_of
from giveback.webs import Web, lots_of
from helping import (THINGS, drawn, gap, random_web, refusal, row_ties, same, seeded, shuffled, slow_beat, tie,
                     waves_ties)


def halves_of(web, posts):
    """(posts that have now, posts that had) of each half, straight by the words of [21]."""
    lots = lots_of(web, posts)
    return [(posts, posts)] if lots is None else [lots, lots[::-1]]


class TestSteps(unittest.TestCase):

    def test_by_hand(self):
        web = Web(3, [(0, 1, 1, 1), (1, 2, 1, 1)])
        standing = ((1, 10, 100), (1000, 10 ** 4, -10 ** 5))
        same(self, steps_of(web, [0, 1, 2], (2, 3, 5), standing), [2000 - 5 * 10 ** 5 - 30, 30000 - 2 - 500])
        same(self, steps_of(Web(1, []), [0], (7,), ((2,), (3,))), [21, -14])
        ring = Web(3, [(0, 1, 1, 1), (1, 2, 1, 1), (0, 2, 1, 1)])
        same(self, steps_of(ring, (0, 1, 2), (2, 3, 5), standing), [2000 + 30000 - 5 * 10 ** 5 - 2 - 30 - 500])

    def test_the_first_half_is_that_of_the_least_post(self):
        web = Web(4, [(0, 3, 1, 1), (2, 3, 1, 1)])
        same(self, steps_of(web, [0, 2, 3], (1, 10, 100), ((1, 5, 2, 3), (4, 5, 6, 7))), [64 - 300, 700 - 21])
        same(self, steps_of(web, [1], (2,), ((1, 5, 2, 3), (4, 6, 6, 7))), [12, -10])

    def test_steps_of_drawn_weights(self):
        chance = seeded(14)
        for most in (1, 100, 10 ** 30):
            for _ in range(80):
                web = random_web(chance, chance.randint(1, 12))
                standing = drawn(chance, len(web), most)
                old, now = standing
                for posts in web.parts():
                    weights = tuple(chance.randint(1, 50) for _ in posts)
                    weight = dict(zip(posts, weights))
                    wanted = [
                        sum(weight[k] * now[k] for k in having) - sum(weight[k] * old[k] for k in had)
                        for having, had in halves_of(web, posts)
                    ]
                    told = steps_of(web, posts, weights, standing)
                    self.assertIs(type(told), list)
                    same(self, told, wanted)
                    same(self, steps_of(web, tuple(posts), weights, standing), wanted)
                    same(self, steps_of(web=web, posts=posts, weights=weights, standing=standing), wanted)

    def test_how_steps_rise_behind_a_beat(self):
        chance = seeded(15)
        for _ in range(150):
            web = random_web(chance, chance.randint(1, 12))
            standing = drawn(chance, len(web), 10 ** 20)
            now = standing[1]
            for posts in web.parts():
                weights = tuple(chance.randint(1, 9) for _ in posts)
                gaps = dict(zip(posts, gap(web, posts, weights)))
                double = {post: 2 * weight for post, weight in zip(posts, weights)}
                rises = [
                    sum(gaps[k] * now[k] if now[k] > 0 else double[k] * -now[k] for k in having)
                    for having, _ in halves_of(web, posts)
                ]
                before = steps_of(web, posts, weights, standing)
                after = steps_of(web, posts, weights, slow_beat(web, standing))
                # A half is the other one behind a beat.
                same(self, after[::-1], [step + rise for step, rise in zip(before, rises)])

    def test_by_weights_of_waves_steps_never_fall(self):
        chance = seeded(16)
        for size, ties in waves_ties():
            web = shuffled(size, ties, chance)
            posts, _, weights = kinds_of(web)[0]
            standing = drawn(chance, size, 5)
            for _ in range(30):
                before = steps_of(web, posts, weights, standing)
                standing = slow_beat(web, standing)
                after = steps_of(web, posts, weights, standing)[::-1]
                self.assertTrue(all(low <= high for low, high in zip(before, after)))

    def test_refusals(self):
        web = Web(3, row_ties([0, 1]))
        good = ((0, 0, 0), (0, 0, 0))
        for thing in [[0], [1, 0], (0, 1, 2), [False, 1]] + THINGS:
            if repr(thing) not in ("[0, 1]", "(0, 1)"):
                same(self, refusal(self, NoPart, steps_of, web, thing, (1, 1), good).posts, thing)
                same(self, refusal(self, NoStanding, steps_of, web, thing, (1, 1), [0]).part, "standing")
                beyond = ((0, 0, 0), (0, 10 ** 30 + 1, 0))
                same(self, refusal(self, NoStanding, steps_of, web, thing, (1, 1), beyond).part, "numbers")

    def test_told_steps_are_new(self):
        web = Web(3, row_ties([0, 1]) + [tie(1, 2)])
        standing = ((0, 1, 2), (3, 4, 5))
        steps_of(web, [0, 1, 2], (1, 1, 1), standing).clear()
        same(self, steps_of(web, [0, 1, 2], (1, 1, 1), standing), [7, 2])


if __name__ == "__main__":
    unittest.main()
