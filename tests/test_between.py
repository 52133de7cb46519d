"""[37] How many beats lie between two standings."""

import unittest
from math import lcm

from giveback.between import beats_between
from giveback.errors import NoStanding
from giveback.far import standing_behind
from giveback.shapes import home_beats
from giveback.webs import Web
from helping import (THINGS, drawn, falling, level, none_ties, nought, put_on, refusal, resting, row_ties, same, seeded,
                     shape_webs, shuffled, side_by_side, slow_back, slow_behind, slow_run, waves_ties)

FAR = 10 ** 18
RING = (4, row_ties([0, 1, 2, 3]) + [(0, 3, 1, 1)])
HEAVY = (2, [(0, 1, 1, 5)])


def slow_between(web, one, other, most):
    """The number of beats between, of at most so many either way, beats gone one by one."""
    run = slow_run(web, one, most)
    if other in run:
        return run.index(other)
    run = slow_run(web, one[::-1], most)
    return -run.index(other[::-1]) if other[::-1] in run else None


class TestBetween(unittest.TestCase):

    def look_at(self, web, one, other, wanted):
        """It is told so; and it leads from the one to the other where it can be gone."""
        same(self, beats_between(web, one, other), wanted)
        if wanted is not None and abs(wanted) <= FAR:
            same(self, standing_behind(web, one, wanted), other)

    def test_by_hand(self):
        post = Web(1, [])
        start = ((3,), (5,))
        for many, there in enumerate([start, ((5,), (-3,)), ((-3,), (-5,)), ((-5,), (3,))]):
            self.look_at(post, start, there, many)
            self.look_at(post, there, start, -many % 4)
        self.look_at(post, start, ((5,), (3,)), None)
        self.look_at(post, start, ((0,), (0,)), None)
        waves = Web(2, [(0, 1, 2, 2)])
        self.look_at(waves, ((1, 1), (0, 0)), ((0, 0), (1, 1)), 3)
        self.look_at(waves, ((0, 0), (1, 1)), ((1, 1), (0, 0)), -3)
        self.look_at(waves, ((5, 3), (3, 5)), ((3, 5), (5, 3)), 1)
        self.look_at(waves, ((5, 3), (3, 5)), ((5, 3), (5, 3)), None)
        same(self, beats_between(web=waves, one=((0, 0), (1, 1)), other=((1, 1), (0, 0))), -3)

    def test_of_the_kind_all(self):
        chance = seeded(80)
        for _, _, web in shape_webs(chance):
            for most in (1, 10 ** 28):
                one = drawn(chance, len(web), most)
                turn = slow_back(web, one)
                for many in [0, 1, turn - 1] + [chance.randrange(turn) for _ in range(2)]:
                    self.look_at(web, one, slow_behind(web, one, many), many % turn)
                other = slow_behind(web, one, chance.randrange(turn))
                raised = other[0], other[1][:-1] + (other[1][-1] + 1,)
                self.look_at(web, one, raised, slow_between(web, one, raised, home_beats(web)))
            self.look_at(web, one, nought(web), None)
            self.look_at(web, nought(web), one, None)
            self.look_at(web, nought(web), nought(web), 0)

    def test_of_waves(self):
        chance = seeded(81)
        homes = 0
        for size, ties in waves_ties():
            web = shuffled(size, ties, chance)
            for one in (drawn(chance, size, 2), drawn(chance, size, 10 ** 20), level(web, chance, 2, 50)):
                turn = slow_back(web, one)
                homes += turn is not None
                for many in (0, chance.choice((1, -1, 2, -3)), chance.randint(4, 150), chance.randint(-150, -4)):
                    other = slow_behind(web, one, many)
                    self.look_at(web, one, other, many if turn is None else many % turn)
                raised = other[0], other[1][:-1] + (other[1][-1] + 1,)
                self.look_at(web, one, raised, slow_between(web, one, raised, 120))
            rest = resting(web)
            self.look_at(web, (rest, rest), (rest, rest), 0)
            self.look_at(web, (rest, rest), one, None)
            self.look_at(web, drawn(chance, size, 5), (rest, rest), None)
            self.look_at(web, falling(web, 3), nought(web), None)
        self.assertGreater(homes, 30)

    def test_of_waves_far_apart(self):
        chance = seeded(82)
        for size, ties in waves_ties()[::2]:
            web = shuffled(size, ties, chance)
            middle = drawn(chance, size, 4)
            if slow_back(web, middle) is None:
                ends = [standing_behind(web, middle, many) for many in (-FAR, FAR)]
                beyond = standing_behind(web, ends[1], 10 ** 17 + 9)
                self.look_at(web, ends[0], ends[1], 2 * FAR)
                self.look_at(web, ends[1], ends[0], -2 * FAR)
                self.look_at(web, ends[0], beyond, 2 * FAR + 10 ** 17 + 9)
                self.look_at(web, beyond, ends[0], -2 * FAR - 10 ** 17 - 9)
                self.look_at(web, ends[0], middle, FAR)
                raised = beyond[0], (beyond[1][0] + 1,) + beyond[1][1:]
                self.look_at(web, ends[0], raised, None)

    def test_of_waves_as_far_as_can_be(self):
        chance = seeded(83)
        for size, ties in waves_ties():
            web = shuffled(size, ties, chance)
            high = 10 ** 29 // max(resting(web))
            started = falling(web, high)
            # It falls to nought, owes once, and rises as it fell.
            risen = started[::-1]
            self.look_at(web, started, risen, 2 * high + 3)
            self.look_at(web, risen, started, -2 * high - 3)
            self.look_at(web, falling(web, high - 7), risen, 2 * high - 4)

    def test_of_waves_what_would_be_there_if_none_owed(self):
        chance = seeded(87)
        for size, ties in waves_ties()[::6]:
            web = shuffled(size, ties, chance)
            rest = resting(web)
            below = tuple(tuple(-many * number for number in rest) for many in (1, 2))
            for high in (0, 5, 60, 61, 10 ** 20):
                started = falling(web, high)
                # It falls to nought and owes once; more than that it never owes.
                for there in (below, below[::-1]):
                    self.look_at(web, started, there, None)
                    self.look_at(web, started[::-1], there, None)
                    self.look_at(web, there, started, None)

    def test_of_waves_of_which_one_half_stands(self):
        web = Web(4, RING[1])
        # Half 0 goes round, half 1 falls.
        started = put_on(4, [([0, 2], ((10 ** 20 + 1,) * 2, (3, 4))), ([1, 3], ((4, 3), (10 ** 20,) * 2))])
        turn = 4
        for many in (0, 1, 5, 100 + 10 ** 17, -3, -10 ** 17):
            self.look_at(web, started, standing_behind(web, started, many), many)
        there = standing_behind(web, started, 10 ** 17 * turn // turn)
        other = slow_behind(web, started, 1)
        mixed = put_on(4, [([0, 2], (there[0][0:3:2], other[1][0:3:2])), ([1, 3], (there[0][1::2], other[1][1::2]))])
        self.look_at(web, started, mixed, None)

    def test_of_the_kind_none(self):
        chance = seeded(84)
        for size, ties in none_ties():
            web = shuffled(size, ties, chance)
            for one in (drawn(chance, size, 1), drawn(chance, size, 3)):
                if one != nought(web):
                    for many in (0, 1, -1, 2, -2, 5, -6, 11, -12):
                        self.look_at(web, one, slow_behind(web, one, many), many)
                    other = slow_behind(web, one, chance.randint(-9, 9))
                    raised = other[0], other[1][:-1] + (other[1][-1] + 1,)
                    self.look_at(web, one, raised, slow_between(web, one, raised, 30))
                    self.look_at(web, one, nought(web), None)
                    self.look_at(web, nought(web), one, None)
            self.look_at(web, nought(web), nought(web), 0)
            great = drawn(chance, size, 10 ** 30)
            self.look_at(web, great, drawn(chance, size, 10 ** 30), None)
            self.look_at(web, great, great, 0)

    def test_of_none_for_long(self):
        web = Web(10, row_ties([0, 1, 2, 3, 4, 5, 6, 7, 8]) + [(2, 9, 1, 1)])
        one = ((0,) * 10, (1,) + (0,) * 9)
        run = slow_run(web, one, 800)
        for many in (100, 500, 800):
            self.look_at(web, one, run[many], many)
            self.look_at(web, run[many], one, -many)
            self.look_at(web, run[many][::-1], run[many], 2 * many + slow_between(web, one[::-1], one, 9))

    def test_rests_that_are_met_at_once_and_that_cannot_be(self):
        chance = seeded(85)
        told = {"met": 0, "not": 0}
        parts = [(3, row_ties([0, 1, 2])), (2, row_ties([0, 1])), (2, [(0, 1, 1, 3)]), (1, [])]
        for _ in range(40):
            web = side_by_side(parts, chance)
            standings, turns, rests = [], [], []
            common = chance.choice((None, chance.randrange(10 ** 6)))
            for part in web.parts():
                size = len(part)
                ties = [(part.index(one), part.index(other), there, back) for one, other, there, back in web.ties()
                        if one in part]
                alone = Web(size, ties)
                here = drawn(chance, size, 9)
                turns.append(slow_back(alone, here))
                rests.append(chance.randrange(turns[-1]) if common is None else common % turns[-1])
                standings.append((part, here, slow_behind(alone, here, rests[-1])))
            one = put_on(8, [(part, here) for part, here, _ in standings])
            other = put_on(8, [(part, there) for part, _, there in standings])
            wanted = next((many for many in range(lcm(*turns)) if all(
                many % turn == rest for turn, rest in zip(turns, rests))), None)
            told["not" if wanted is None else "met"] += 1
            self.look_at(web, one, other, wanted)
            many = chance.randrange(10 ** 6)
            self.look_at(web, one, slow_behind(web, one, many % lcm(*turns)), many % lcm(*turns))
        self.assertGreater(min(told.values()), 4, told)

    def test_parts_of_unlike_kinds(self):
        chance = seeded(86)
        ring, row = RING, (3, row_ties([0, 1, 2]))
        for _ in range(25):
            web = side_by_side([ring, HEAVY, row, (1, []), (2, [(0, 1, 2, 2)])], chance)
            one = drawn(chance, 12, 3)
            many = chance.randint(-25, 25)
            other = slow_behind(web, one, many)
            beside = slow_behind(web, one, many + chance.choice((1, -1, 4, 12)))
            self.look_at(web, one, other, many)
            for part in web.parts():
                mixed = put_on(12, [(range(12), other), (part, tuple([row[k] for k in part] for row in beside))])
                self.look_at(web, one, mixed, slow_between(web, one, mixed, 40))

    def test_two_parts_that_went_unlike_beats(self):
        web = Web(4, [(0, 1, 2, 2), (2, 3, 1, 5)])
        one = ((1, 2, 0, 1), (0, 1, 3, 0))
        for low in range(-6, 7):
            for high in range(-6, 7):
                first, second = slow_behind(web, one, low), slow_behind(web, one, high)
                mixed = tuple(row[:2] + other[2:] for row, other in zip(first, second))
                self.look_at(web, one, mixed, low if low == high else None)

    def test_a_part_that_went_beside_one_that_comes_back(self):
        web = Web(3, [(0, 1, 2, 2)])
        one = ((0, 0, 3), (1, 1, 5))
        for low in range(-9, 10):
            for high in range(4):
                first, second = slow_behind(web, one, low), slow_behind(web, one, high)
                mixed = tuple(row[:2] + other[2:] for row, other in zip(first, second))
                self.look_at(web, one, mixed, low if low % 4 == high else None)
        mixed = put_on(3, [([0, 1, 2], standing_behind(web, one, 5 - FAR)), ([2], ((5,), (3,)))])
        self.look_at(web, one, mixed, None)

    def test_the_least_from_nought_on_ahead_of_those_below(self):
        web = Web(2, [])
        one = ((1, 0), (0, 0))
        for many in range(-8, 9):
            self.look_at(web, one, slow_behind(web, one, many), many % 4)

    def test_no_standing(self):
        web = Web(2, [(0, 1, 2, 2)])
        good = nought(web)
        for thing in THINGS + [[(0, 0), (0, 0)], ((0, 0), [0, 0])]:
            same(self, refusal(self, NoStanding, beats_between, web, thing, good).part, "standing")
            same(self, refusal(self, NoStanding, beats_between, web, good, thing).part, "standing")
        for number in (True, None, 10 ** 30 + 1, -10 ** 30 - 1):
            bad = ((0, 0), (0, number))
            same(self, refusal(self, NoStanding, beats_between, web, bad, None).part, "numbers")
            same(self, refusal(self, NoStanding, beats_between, web, None, bad).part, "standing")
            same(self, refusal(self, NoStanding, beats_between, web, good, bad).part, "numbers")


if __name__ == "__main__":
    unittest.main()
