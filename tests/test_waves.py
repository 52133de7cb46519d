"""[36] Wave beats, and the last beat at which a standing of waves owes."""

import unittest
from math import lcm

from giveback.errors import NoPart, NoStanding, NotWaves
from giveback.far import standing_behind
from giveback.kinds import kinds_of, steps_of
from giveback.waves import last_owed, wave_beats
from giveback.webs import Web, lots_of
from helping import (THINGS, drawn, falling, just_owing, level, none_ties, nought, put_on, refusal, resting, row_ties,
                     same, seeded, shape_webs, shuffled, side_by_side, slow_back, slow_behind, slow_last, slow_run,
                     waves_ties)


class TestWaveBeats(unittest.TestCase):

    def test_beside_beats_gone_one_by_one(self):
        chance = seeded(40)
        for size, ties in waves_ties():
            web = shuffled(size, ties, chance)
            told = wave_beats(web, list(range(size)))
            alone = [slow_back(web, level(web, chance, 5, 10 ** 9)) for _ in range(6)]
            self.assertNotIn(None, alone)
            same(self, told, lcm(*alone))
            same(self, wave_beats(web=web, posts=tuple(range(size))), told)

    def test_by_hand(self):
        for there, back in ((2, 2), (1, 4), (4, 1)):
            same(self, wave_beats(Web(2, [(0, 1, there, back)]), [0, 1]), 2)
        for size in range(3, 13):
            ring = Web(size, row_ties(list(range(size))) + [(0, size - 1, 1, 1)])
            same(self, wave_beats(ring, list(range(size))), size)
        star = Web(5, [(0, k, 1, 1) for k in range(1, 5)])
        same(self, wave_beats(star, [0, 1, 2, 3, 4]), 4)

    def test_what_does_not_owe_is_itself_and_so_much_for_each_step(self):
        chance = seeded(41)
        for size, ties in waves_ties()[::2]:
            web = shuffled(size, ties, chance)
            posts, _, weights = kinds_of(web)[0]
            turn = wave_beats(web, posts)
            lots = lots_of(web, posts) or (posts, posts)
            rest = resting(web)
            found = {}
            for _ in range(8):
                standing = tuple(
                    tuple(10 ** 6 * high + number for high, number in zip(rest, row)) for row in drawn(chance, size, 9))
                run = slow_run(web, standing, turn)
                self.assertGreaterEqual(min(min(now) for _, now in run), 0)
                steps = steps_of(web, posts, weights, standing)
                for half, step in enumerate(steps):
                    for which in (1, 0):
                        for post in lots[(half + 1 - which) % 2]:
                            more = run[turn][which][post] - standing[which][post]
                            known, by = found.setdefault((half, which, post), (more, step))
                            self.assertEqual(more * by, known * step)
                            if step:
                                found[(half, which, post)] = (more, step)

    def test_refused_in_their_order(self):
        web = Web(7, [(0, 5, 1, 1), (1, 6, 2, 2), (2, 3, 3, 3)])
        for thing in THINGS + [[1], [6, 1], (1, 6, 6), [True, 6], [0, 1], {1: 6}]:
            if repr(thing) not in ("[4]", "(4,)"):
                same(self, refusal(self, NoPart, wave_beats, web, thing).posts, thing)
        for posts in ((0, 5), (2, 3), (4,)):
            same(self, refusal(self, NotWaves, wave_beats, web, posts).posts, posts)
            same(self, refusal(self, NotWaves, wave_beats, web, list(posts)).posts, posts)
        same(self, wave_beats(web, [1, 6]), 2)
        same(self, wave_beats(web, (1, 6)), 2)

    def test_not_waves(self):
        chance = seeded(42)
        webs = [web for _, _, web in shape_webs(chance)] + [shuffled(*told, chance) for told in none_ties()]
        for web in webs:
            posts = list(range(len(web)))
            same(self, refusal(self, NotWaves, wave_beats, web, posts).posts, tuple(posts))
            same(self, refusal(self, NotWaves, last_owed, web, nought(web)).posts, tuple(posts))


class TestLastOwed(unittest.TestCase):

    def test_by_hand(self):
        web = Web(2, [(0, 1, 2, 2)])
        same(self, last_owed(web, ((0, 0), (0, 0))), None)
        same(self, last_owed(web, ((5, 3), (3, 5))), None)
        same(self, last_owed(web, ((-5, -5), (0, 0))), None)
        same(self, last_owed(web, ((0, 0), (-1, -1))), 0)
        same(self, last_owed(web, ((0, 0), (-1, 0))), 0)
        same(self, last_owed(web, ((1, 1), (0, 0))), 1)
        same(self, last_owed(web, ((11, 11), (10, 10))), 11)
        same(self, last_owed(web, ((10 ** 29 + 1,) * 2, (10 ** 29,) * 2)), 10 ** 29 + 1)
        same(self, last_owed(web=web, standing=((11, 10 ** 30), (10 ** 30 - 1, 10))), 10 ** 30)

    def test_beside_beats_gone_one_by_one(self):
        chance = seeded(43)
        lasts = {"never": 0, "at once": 0, "soon": 0, "late": 0}
        for size, ties in waves_ties():
            web = shuffled(size, ties, chance)
            turn = wave_beats(web, list(range(size)))
            rest = resting(web)
            for high in (0, 1, 4, 20):
                raised = tuple(
                    tuple(high * many + number for many, number in zip(rest, row)) for row in drawn(chance, size, 2))
                for standing in (drawn(chance, size, 3), level(web, chance, 1, high), raised):
                    last = slow_last(web, standing, turn)
                    same(self, last_owed(web, standing), last)
                    word = "never" if last is None else "at once" if last == 0 else "soon" if last < turn else "late"
                    lasts[word] += 1
            same(self, last_owed(web, (rest, rest)), None)
            same(self, last_owed(web, nought(web)), None)
        self.assertGreater(min(lasts.values()), 5, lasts)

    def test_standings_that_just_owe(self):
        chance = seeded(44)
        for size, ties in waves_ties()[::3]:
            web = shuffled(size, ties, chance)
            standing = just_owing(web, size, 3)
            same(self, last_owed(web, standing), slow_last(web, standing, wave_beats(web, list(range(size)))))

    def test_long_falls(self):
        chance = seeded(45)
        for size, ties in waves_ties():
            web = shuffled(size, ties, chance)
            for high in (0, 1, 70, 10 ** 6, 10 ** 18, 10 ** 29 // max(resting(web))):
                same(self, last_owed(web, falling(web, high)), high + 1)

    def test_falls_that_end_in_any_way(self):
        chance = seeded(46)
        far = 0
        for size, ties in waves_ties()[::2]:
            web = shuffled(size, ties, chance)
            turn = wave_beats(web, list(range(size)))
            for most in (1, 5):
                ending = drawn(chance, size, most)
                last = slow_last(web, ending, turn)
                if last is not None:
                    for back in (7, 10 ** 9, 10 ** 18):
                        started = standing_behind(web, ending, -back)
                        same(self, last_owed(web, started), last + back)
                        far += last + back > 10 ** 18
        self.assertGreater(far, 10)

    def test_numbers_to_the_greatest(self):
        chance = seeded(47)
        for size, ties in waves_ties():
            web = shuffled(size, ties, chance)
            standing = drawn(chance, size, 10 ** 30)
            same(self, last_owed(web, standing), slow_last(web, standing, wave_beats(web, list(range(size)))))

    def test_several_parts(self):
        chance = seeded(48)
        ring, heavy, odd = (4, row_ties([0, 1, 2, 3]) + [(0, 3, 1, 1)]), (2, [(0, 1, 2, 2)]), (3, row_ties([0, 1, 2]) + [
            (0, 2, 1, 1)])
        for _ in range(20):
            web = side_by_side([ring, heavy, odd], chance)
            highs = [chance.choice((None, 0, 3, 50, 10 ** 25)) for _ in range(3)]
            told = []
            for part, high in zip(web.parts(), highs):
                one = (7, 7, 7, 7)[:len(part)]
                told.append((part, (one, one) if high is None else ((high + 1,) * len(part), (high,) * len(part))))
            lasts = [high + 1 for high in highs if high is not None]
            same(self, last_owed(web, put_on(9, told)), max(lasts, default=None))

    def test_refused_in_their_order(self):
        web = Web(7, [(0, 5, 2, 2), (1, 6, 2, 2), (2, 3, 3, 3)])
        for thing in THINGS + [[(0,) * 7, (0,) * 7], ((0,) * 7, [0] * 7)]:
            same(self, refusal(self, NoStanding, last_owed, web, thing).part, "standing")
        for number in (True, 10 ** 30 + 1, None):
            same(self, refusal(self, NoStanding, last_owed, web, ((0,) * 7, (0,) * 6 + (number,))).part, "numbers")
        same(self, refusal(self, NotWaves, last_owed, web, nought(web)).posts, (2, 3))
        other = Web(7, [(0, 5, 2, 2), (2, 6, 2, 2), (3, 4, 3, 3)])
        same(self, refusal(self, NotWaves, last_owed, other, nought(other)).posts, (1,))

    def test_it_owes_then_and_never_behind(self):
        chance = seeded(49)
        for size, ties in waves_ties()[::4]:
            web = shuffled(size, ties, chance)
            old, now = falling(web, 10 ** 16)
            standing = tuple(number + chance.randint(0, 1) for number in old), now
            last = last_owed(web, standing)
            self.assertGreater(last, 10 ** 14)
            there = standing_behind(web, standing, last)
            self.assertLess(min(there[1]), 0)
            behind = slow_behind(web, there, 1)
            same(self, slow_last(web, behind, wave_beats(web, list(range(size)))), None)


if __name__ == "__main__":
    unittest.main()
