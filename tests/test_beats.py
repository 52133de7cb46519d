"""[13] Beats, on and back, and runs. [12] They refuse what is no standing."""

import unittest

from giveback.beats import beat_back, beat_on, run_of
from giveback.errors import NoStanding
from giveback.webs import Web
from helping import drawn, random_web, refusal, same, seeded, slow_beat, slow_run, whole_throughout


class TestBeats(unittest.TestCase):

    def test_by_hand(self):
        web = Web(3, [(0, 1, 2, 3), (1, 2, 5, 7)])
        same(self, beat_on(web, ((1, 2, 3), (10, 100, 1000))), ((10, 100, 1000), (299, 7018, 497)))
        same(self, beat_on(web, ((1, 2, 3), (-10, 100, 0))), ((-10, 100, 0), (299, -2, 497)))
        same(self, beat_on(web, ((-1, -2, 0), (10, -100, -1))), ((10, -100, -1), (1, 22, 0)))
        same(self, beat_on(web, ((0, 0, 0), (0, 0, 0))), ((0, 0, 0), (0, 0, 0)))
        same(self, beat_on(Web(1, []), ((4,), (5,))), ((5,), (-4,)))

    def test_great_numbers_by_hand(self):
        web = Web(2, [(0, 1, 9, 4)])
        great = 10 ** 30
        high, other = (great, great - 1), (5 * great - 4, 9 * great - 1)
        same(self, beat_on(web, ((-great, 1), high)), (high, other))
        same(self, beat_back(web, (high, (-great, 1))), (other, high))

    def test_beats_are_as_the_words_say(self):
        chance = seeded(4)
        for most in (1, 3, 100, 10 ** 12, 10 ** 26, 10 ** 30):
            for _ in range(60):
                web = random_web(chance, chance.randint(1, 12))
                standing = drawn(chance, len(web), most)
                told = beat_on(web, standing)
                same(self, told, slow_beat(web, standing))
                self.assertTrue(whole_throughout(told))
                self.assertTrue(whole_throughout(beat_back(web, standing)))

    def test_on_and_back_and_back_and_on(self):
        chance = seeded(5)
        for most in (1, 3, 100, 10 ** 12, 10 ** 26):
            for _ in range(60):
                web = random_web(chance, chance.randint(1, 12))
                standing = drawn(chance, len(web), most)
                same(self, beat_back(web, beat_on(web, standing)), standing)
                same(self, beat_on(web, beat_back(web, standing)), standing)
                same(self, slow_beat(web, beat_back(web=web, standing=standing)), standing)

    def test_runs(self):
        chance = seeded(6)
        for beats in (0, 1, 2, 30, 200):
            for _ in range(5):
                web = random_web(chance, chance.randint(1, 12), most=2)
                standing = drawn(chance, len(web), 10 ** 30)
                run = run_of(web, standing, beats)
                self.assertIs(type(run), list)
                same(self, len(run), beats + 1)
                same(self, run, slow_run(web, standing, beats))
                self.assertTrue(all(whole_throughout(told) for told in run))

    def test_told_runs_are_new(self):
        web = Web(1, [])
        run = run_of(web=web, standing=((1,), (2,)), beats=2)
        same(self, run, [((1,), (2,)), ((2,), (-1,)), ((-1,), (-2,))])
        run.clear()
        same(self, len(run_of(web, ((1,), (2,)), 2)), 3)

    def test_no_standing(self):
        web = Web(2, [(0, 1, 1, 1)])
        for call in (beat_on, beat_back, lambda web, standing: run_of(web, standing, 3), lambda *two: run_of(*two, 0)):
            for thing in (None, [(0, 0), (0, 0)], ([0, 0], (0, 0)), ((0, 0), (0,)), ((0, 0),), {}, "ab"):
                same(self, refusal(self, NoStanding, call, web, thing).part, "standing")
            for number in (True, None, "1", 10 ** 30 + 1, -10 ** 30 - 1):
                same(self, refusal(self, NoStanding, call, web, ((0, 0), (0, number))).part, "numbers")


if __name__ == "__main__":
    unittest.main()
