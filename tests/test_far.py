"""[35] Standings behind any number of beats, on and back."""

import unittest

from giveback.beats import beat_back, beat_on
from giveback.errors import NoBeats, NoStanding, TooGreat
from giveback.far import far_on_none, standing_behind
from giveback.shapes import home_beats
from giveback.waves import wave_beats
from giveback.webs import Web
from helping import (SHAPES, THINGS, drawn, falling, level, none_ties, nought, put_on, refusal, resting, row_ties, same,
                     seeded, shape_ties, shape_webs, shuffled, side_by_side, slow_behind, slow_run, waves_ties,
                     whole_throughout)

FAR = 10 ** 18
GREAT = 10 ** 300
BEATS = (0, 1, -1, 2, -2, 3, -5, 11, -12, 59, 60, 61, -61, 130, -150)
RING = (4, row_ties([0, 1, 2, 3]) + [(0, 3, 1, 1)])
ODD = (3, row_ties([0, 1, 2]) + [(0, 2, 1, 1)])
HEAVY = (2, [(0, 1, 1, 5)])


def too_great(web, standing, most=20000):
    """The least number of beats on at which a number is too great, and the standing one beat ahead of it."""
    for beats in range(1, most):
        behind = slow_run(web, standing, 1)[1]
        if max(abs(number) for number in behind[1]) > GREAT:
            return beats, standing
        standing = behind
    raise AssertionError("never too great")


class TestFar(unittest.TestCase):

    def look_at(self, web, standing, many):
        """It is told as beats gone one by one lead."""
        told = standing_behind(web, standing, many)
        self.assertTrue(whole_throughout(told))
        same(self, told, slow_behind(web, standing, many))

    def test_by_hand(self):
        web = Web(2, [(0, 1, 2, 2)])
        same(self, standing_behind(web, ((0, 0), (1, 1)), FAR), ((FAR, FAR), (FAR + 1, FAR + 1)))
        same(self, standing_behind(web, ((1, 1), (0, 0)), -FAR), ((FAR + 1, FAR + 1), (FAR, FAR)))
        same(self, standing_behind(web, ((0, 0), (1, 1)), -FAR), ((FAR - 2, FAR - 2), (FAR - 3, FAR - 3)))
        high = 10 ** 17
        there = standing_behind(web, ((high + 1,) * 2, (high,) * 2), FAR)
        same(self, there, ((FAR - high - 3,) * 2, (FAR - high - 2,) * 2))
        same(self, standing_behind(Web(1, []), ((3,), (5,)), FAR), ((3,), (5,)))
        same(self, standing_behind(Web(1, []), ((3,), (5,)), FAR - 1), ((-5,), (3,)))
        same(self, standing_behind(Web(1, []), ((3,), (5,)), 1 - FAR), ((5,), (-3,)))
        same(self, standing_behind(Web(2, [(0, 1, 1, 5)]), ((0, 0), (0, 1)), 2), ((5, 0), (0, 4)))
        same(self, standing_behind(web=web, standing=((1, 2), (3, 4)), beats=0), ((1, 2), (3, 4)))

    def test_of_the_kind_all(self):
        chance = seeded(50)
        for _, _, web in shape_webs(chance):
            for most in (2, 10 ** 30):
                standing = drawn(chance, len(web), most)
                for many in BEATS:
                    self.look_at(web, standing, many)
                home = home_beats(web)
                for many in (FAR, -FAR, FAR - 1, 7 - FAR):
                    same(self, standing_behind(web, standing, many), slow_behind(web, standing, many % home))

    def test_of_waves(self):
        chance = seeded(51)
        for size, ties in waves_ties():
            web = shuffled(size, ties, chance)
            for standing in (drawn(chance, size, 3), drawn(chance, size, 10 ** 30), level(web, chance, 2, 30)):
                for many in chance.sample(BEATS, 5):
                    self.look_at(web, standing, many)

    def test_of_the_kind_none(self):
        chance = seeded(52)
        for size, ties in none_ties():
            web = shuffled(size, ties, chance)
            for standing in (drawn(chance, size, 2), drawn(chance, size, 10 ** 30), nought(web)):
                for many in [beats for beats in BEATS if abs(beats) < 100]:
                    self.look_at(web, standing, many)

    def test_of_several_kinds(self):
        chance = seeded(53)
        for _ in range(25):
            web = side_by_side([RING, HEAVY, ODD, (2, row_ties([0, 1])), (1, [])], chance)
            for many in BEATS:
                self.look_at(web, drawn(chance, 12, chance.choice((2, 10 ** 30))), many)

    def test_webs_of_each_size(self):
        chance = seeded(54)
        for size in range(1, 13):
            web = Web(size, [(k, k + 1, 1, 1) for k in range(0, size - 1, 2)])
            for many in BEATS:
                self.look_at(web, drawn(chance, size, 9), many)

    def test_behind_both_together(self):
        chance = seeded(55)
        webs = [shuffled(size, ties, chance) for size, ties in waves_ties()[::2]]
        webs += [side_by_side([RING, ODD, (2, row_ties([0, 1])), (1, [])], chance) for _ in range(20)]
        for web in webs:
            standing = drawn(chance, len(web), 10 ** 9)
            one, other = chance.randint(-FAR // 2, FAR // 2), chance.randint(-FAR // 2, FAR // 2)
            there = standing_behind(web, standing, one)
            both = standing_behind(web, standing, one + other)
            same(self, standing_behind(web, there, other), both)
            same(self, standing_behind(web, there, -one), standing)
            same(self, standing_behind(web, both, -one - other), standing)
            same(self, beat_on(web, there), standing_behind(web, standing, one + 1))
            same(self, beat_back(web, there), standing_behind(web, standing, one - 1))
            for end in (FAR, -FAR):
                far = standing_behind(web, standing, end)
                same(self, standing_behind(web, far, -end), standing)

    def test_great_numbers_far(self):
        chance = seeded(56)
        for size, ties in waves_ties()[::3]:
            web = shuffled(size, ties, chance)
            rest = resting(web)
            for many in (FAR, -FAR):
                raised = tuple(tuple(10 ** 28 * high + number for high, number in zip(rest, row)) for row in drawn(
                    chance, size, 10 ** 6))
                there = standing_behind(web, raised, many)
                same(self, standing_behind(web, there, -many), raised)
                turn = wave_beats(web, list(range(size)))
                # Nothing owes on the way: each round of wave beats adds the same.
                after = slow_run(web, raised, turn)[-1] if many > 0 else slow_behind(web, raised, -turn)
                rounds, left = divmod(FAR, turn)
                there = tuple(
                    tuple(own + rounds * (more - own) for own, more in zip(*rows)) for rows in zip(raised, after))
                left = left if many > 0 else -left
                same(self, standing_behind(web, raised, many), slow_behind(web, there, left))

    def test_what_falls_for_long_before_it_owes(self):
        chance = seeded(57)
        for size, ties in waves_ties():
            web = shuffled(size, ties, chance)
            rest = resting(web)
            for high in (10 ** 6, 10 ** 12, FAR - 40):
                started = falling(web, high)
                none = tuple(0 for _ in rest)
                same(self, standing_behind(web, started, high), (rest, none))
                same(self, standing_behind(web, started, high + 1), (none, tuple(-number for number in rest)))
                same(self, standing_behind(web, started, high + 2), (tuple(-number for number in rest), none))
                same(self, standing_behind(web, started, high + 30), tuple(
                    tuple(many * number for number in rest) for many in (27, 28)))
                same(self, standing_behind(web, started[::-1], -high - 1), (tuple(-number for number in rest), none))

    def test_no_beats(self):
        web = Web(3, [(0, 1, 3, 3)])
        good = ((0, 1, 0), (0, 0, 0))
        bad = [thing for thing in THINGS if type(thing) is not int] + [FAR + 1, -FAR - 1, 10 ** 999, -10 ** 999, [5], "5"]
        for thing in bad:
            same(self, refusal(self, NoBeats, standing_behind, web, good, thing).beats, thing)
            same(self, refusal(self, NoStanding, standing_behind, web, (good[0], [0, 0, 0]), thing).part, "standing")
            same(self, refusal(self, NoStanding, standing_behind, web, (good[0], (0, 0, True)), thing).part, "numbers")
        for thing in THINGS:
            same(self, refusal(self, NoStanding, standing_behind, web, thing, 1).part, "standing")


class TestTooGreat(unittest.TestCase):

    def look_at(self, web, standing):
        """On and back it is refused from the least number of beats on, and told just ahead of it."""
        for sign, started in ((1, standing), (-1, standing[::-1])):
            beats, ahead = too_great(web, started)
            for many in (beats, FAR):
                same(self, refusal(self, TooGreat, standing_behind, web, standing, sign * many).beats, beats)
            same(self, standing_behind(web, standing, sign * (beats - 1)), ahead if sign == 1 else ahead[::-1])

    def test_of_each_web_of_none(self):
        chance = seeded(58)
        for size, ties in none_ties():
            web = shuffled(size, ties, chance)
            place = chance.randrange(size)
            one = tuple(chance.choice((-1, 1)) * int(k == place) for k in range(size))
            singles = [(one, nought(web)[0]), (nought(web)[0], one)]
            self.look_at(web, chance.choice(singles + [drawn(chance, size, most) for most in (1, 10 ** 30)]))

    def test_by_hand(self):
        web = Web(2, [(0, 1, 9, 9)])
        run = slow_run(web, ((0, 0), (1, 1)), 400)
        beats = next(beat for beat, (_, now) in enumerate(run) if now[0] > GREAT)
        same(self, standing_behind(web, run[0], beats - 1), run[beats - 1])
        same(self, refusal(self, TooGreat, standing_behind, web, run[0], beats).beats, beats)
        same(self, standing_behind(web, run[0][::-1], 1 - beats), run[beats - 1][::-1])
        same(self, refusal(self, TooGreat, standing_behind, web, run[0][::-1], -beats).beats, beats)

    def test_the_greatest_itself_is_told(self):
        web = Web(2, [(0, 1, 1, 5)])
        # No standing that may be handed in is known to come to just this number, so it is begun a beat ahead of it.
        ahead = ((0, 0), (0, GREAT // 5))
        same(self, far_on_none(web, ahead, 1), ((0, GREAT // 5), (GREAT, 0)))
        same(self, refusal(self, TooGreat, far_on_none, web, ((-1, 0), ahead[1]), 1).beats, 1)

    def test_beside_others(self):
        chance = seeded(60)
        for _ in range(15):
            parts = [RING, HEAVY, (2, [(0, 1, 3, 3)]), (3, row_ties([0, 1, 2]))]
            web = side_by_side(parts, chance)
            self.look_at(web, drawn(chance, 11, chance.choice((1, 10 ** 30))))

    def test_of_several_of_none_the_first_to_grow(self):
        web = Web(4, [(0, 1, 1, 5), (2, 3, 9, 9)])
        slow = ((0, 0, 0, 0), (1, 0, 0, 0))
        fast = ((0, 0, 0, 0), (0, 0, 0, 1))
        both = ((0, 0, 0, 0), (1, 0, 0, 1))
        least = [too_great(web, standing)[0] for standing in (slow, fast, both)]
        self.assertEqual(least[1:], [min(least)] * 2)
        for standing, beats in zip((slow, fast, both), least):
            same(self, refusal(self, TooGreat, standing_behind, web, standing, FAR).beats, beats)

    def test_nought_stays_nought_while_others_run(self):
        chance = seeded(61)
        for _ in range(20):
            web = side_by_side([RING, HEAVY, (3, row_ties([0, 1, 2])), (2, [(0, 1, 9, 9)])], chance)
            still = [post for part in web.parts() if len(part) == 2 for post in part]
            parts = [(part, drawn(chance, len(part), 10 ** 9)) for part in web.parts() if len(part) != 2]
            standing = put_on(11, parts)
            for many in (FAR, -FAR, FAR - 1, 12345):
                told = standing_behind(web, standing, many)
                same(self, [row[post] for row in told for post in still], [0] * 8)
                same(self, standing_behind(web, told, -many), standing)
                for part, alone in parts:
                    ties = [(part.index(one), part.index(other), there, back) for one, other, there, back in web.ties()
                            if one in part]
                    behind = standing_behind(Web(len(part), ties), alone, many)
                    same(self, tuple(tuple(row[post] for post in part) for row in told), behind)
            same(self, standing_behind(web, nought(web), FAR), nought(web))

    def test_nobody_else_is_refused(self):
        for word, size in SHAPES:
            web = Web(size, shape_ties(word, list(range(size))))
            self.assertTrue(whole_throughout(standing_behind(web, ((10 ** 30,) * size,) * 2, FAR)))
        for size, ties in waves_ties():
            top = (10 ** 30,) * size
            self.assertTrue(whole_throughout(standing_behind(Web(size, ties), (tuple(-n for n in top), top), FAR)))


if __name__ == "__main__":
    unittest.main()
