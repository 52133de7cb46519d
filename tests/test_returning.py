"""[22] Whether a standing comes back, and when. [23] Papers that it never does."""

import unittest
from math import lcm

from giveback.errors import NoStanding
from giveback.kinds import is_kind, kinds_of, steps_of
from giveback.returning import comes_back, never_paper, shows_never
from giveback.webs import Web
from helping import (THINGS, drawn, just_owing, level, none_ties, refusal, resting, row_ties, same, seeded, shape_webs,
                     shuffled, side_by_side, slow_back, slow_run, waves_ties)


def nought(web):
    """The standing of nought."""
    return ((0,) * len(web), (0,) * len(web))


def is_paper(web, standing, paper):
    """Whether paper shows it, straight by the words of [23]."""
    posts, weights = paper[1:3]
    numbers = [row[post] for row in standing for post in posts]
    if paper[0] == "none":
        return len(paper) == 3 and is_kind(web, posts, "none", weights) and any(numbers)
    if not is_kind(web, posts, "waves", weights):
        return False
    if paper[0] == "step":
        return len(paper) == 4 and steps_of(web, posts, weights, standing)[paper[3]] != 0
    _, _, _, beat, post = paper
    return paper[0] == "owes" and 0 <= beat <= 1000 and post in posts and slow_run(web, standing, beat)[-1][1][post] < 0


class TestReturning(unittest.TestCase):

    def look_at(self, web, standing, wanted):
        """It is told so, and there is a paper just where it never comes back."""
        same(self, comes_back(web, standing), wanted)
        paper = never_paper(web, standing)
        self.assertEqual(paper is None, wanted is not None)
        if paper is not None:
            self.assertIs(type(paper), tuple)
            self.assertEqual([type(paper[1]), type(paper[2])], [tuple, tuple])
            self.assertIn(paper[1], [tuple(part) for part in web.parts()])
            self.assertTrue(is_paper(web, standing, paper))
            self.assertIs(shows_never(web, standing, paper), True)
        return paper

    def test_by_hand(self):
        self.look_at(Web(1, []), ((0,), (0,)), 1)
        self.look_at(Web(1, []), ((0,), (5,)), 4)
        self.look_at(Web(2, row_ties([0, 1])), ((0, 0), (-1, 0)), 10)
        self.look_at(Web(3, row_ties([0, 1])), ((0, 0, 0), (-1, 0, 1)), 20)
        waves = Web(2, [(0, 1, 2, 2)])
        self.look_at(waves, ((0, 0), (0, 0)), 1)
        self.look_at(waves, ((5, 5), (5, 5)), 1)
        self.look_at(waves, ((5, 3), (3, 5)), 2)
        same(self, self.look_at(waves, ((5, 3), (3, 6)), None)[0], "step")
        same(self, self.look_at(waves, ((-1, -1), (-1, -1)), None)[3:], (0, 0))
        same(self, self.look_at(waves, ((0, 0), (0, 1)), None)[3:], (1,))
        same(self, self.look_at(Web(2, [(0, 1, 1, 5)]), ((0, 0), (0, 1)), None)[:2], ("none", (0, 1)))
        same(self, self.look_at(Web(2, [(0, 1, 1, 5)]), ((-1, 0), (0, 0)), None)[:2], ("none", (0, 1)))
        self.look_at(Web(2, [(0, 1, 1, 5)]), ((0, 0), (0, 0)), 1)

    def test_what_was_owed_a_beat_ago_counts(self):
        web = Web(3, row_ties([0, 1, 2]) + [(0, 2, 1, 1)])
        standing = ((-1, 0, 1), (0, 0, 0))
        same(self, steps_of(web, [0, 1, 2], (1, 1, 1), standing), [0])
        self.look_at(web, standing, slow_back(web, standing))
        self.assertIsNone(comes_back(web, standing))

    def test_of_the_kind_all(self):
        chance = seeded(17)
        for _, _, web in shape_webs(chance):
            for most in (1, 2, 10, 10 ** 30):
                standing = drawn(chance, len(web), most)
                self.look_at(web, standing, slow_back(web, standing))
                one = (0,) * len(web), tuple(most if k == 0 else 0 for k in range(len(web)))
                self.look_at(web, one, slow_back(web, one))
            self.look_at(web, nought(web), 1)

    def test_of_waves(self):
        chance = seeded(18)
        words = {"owes": 0, "step": 0, "back": 0, "late": 0}
        for size, ties in waves_ties():
            web = shuffled(size, ties, chance)
            rest = resting(web)
            self.look_at(web, (rest, rest), 1)
            self.look_at(web, nought(web), 1)
            paper = self.look_at(web, just_owing(web, size, 3), None)
            same(self, paper[0], "owes")
            words["late"] += paper[3] > 5
            for high in (0, 1, 5, 20, 100, 1000):
                for standing in (level(web, chance, 2, high), drawn(chance, size, 5)):
                    paper = self.look_at(web, standing, slow_back(web, standing))
                    words["back" if paper is None else paper[0]] += 1
        self.assertGreater(min(words.values()), 10, words)

    def test_of_waves_with_great_numbers(self):
        chance = seeded(19)
        words = {"owes": 0, "back": 0}
        for size, ties in waves_ties():
            web = shuffled(size, ties, chance)
            for many in (10 ** 12, 10 ** 25):
                high = chance.choice((1, 3, 10, 100))
                standing = tuple(tuple(many * number for number in row) for row in level(web, chance, 1, high))
                paper = self.look_at(web, standing, slow_back(web, standing))
                words["back" if paper is None else paper[0]] += 1
                if paper is None:
                    old, now = standing
                    self.look_at(web, (old, now[:-1] + (now[-1] + 1,)), None)
        self.assertGreater(min(words.values()), 20, words)

    def test_of_the_kind_none(self):
        chance = seeded(20)
        for size, ties in none_ties():
            web = shuffled(size, ties, chance)
            self.look_at(web, nought(web), 1)
            for standing in (drawn(chance, size, 1), drawn(chance, size, 10 ** 30)):
                paper = self.look_at(web, standing, None)
                same(self, paper[0], "none")
            for place in range(size):
                one = tuple(int(k == place) for k in range(size))
                for standing in ((nought(web)[0], one), (one, nought(web)[0])):
                    self.look_at(web, standing, None)
                    self.look_at(web, tuple(tuple(-number for number in row) for row in standing), None)

    def test_of_several_parts(self):
        chance = seeded(21)
        ring = (4, row_ties([0, 1, 2, 3]) + [(0, 3, 1, 1)])
        heavy = (2, [(0, 1, 3, 3)])
        told = set()
        for _ in range(60):
            web = side_by_side([ring, heavy, (3, row_ties([0, 1, 2])), (1, []), (2, row_ties([0, 1]))], chance)
            standing = [[0] * 12, [0] * 12]
            none = chance.random() < 0.3
            for posts, word, _ in kinds_of(web):
                most = chance.choice((0, 0, 3))
                for post in posts:
                    for row in standing:
                        row[post] = {"all": chance.randint(-most, most), "waves": 7, "none": int(none)}[word]
                if word == "waves" and chance.random() < 0.5:
                    standing[0][posts[0]] += 1
                    standing[1][[post for post in posts[1:] if web.cords(post, posts[0])][0]] += 1
            standing = tuple(tuple(row) for row in standing)
            alone = []
            for part in web.parts():
                kept = tuple(tuple(row[k] if k in part else 0 for k in range(12)) for row in standing)
                alone.append(slow_back(web, kept))
            wanted = None if None in alone else lcm(*alone)
            self.look_at(web, standing, wanted)
            told.add(wanted)
        self.assertGreater(len(told), 4)
        self.assertIn(None, told)

    def test_arguments_by_names(self):
        web = Web(2, [(0, 1, 2, 2)])
        standing = ((0, 0), (0, 1))
        self.assertIsNone(comes_back(web=web, standing=standing))
        paper = never_paper(web=web, standing=standing)
        self.assertIs(shows_never(web=web, standing=standing, thing=paper), True)
        same(self, never_paper(web, standing), paper)

    def test_no_standing(self):
        web = Web(2, [(0, 1, 2, 2)])
        for call in (comes_back, never_paper, lambda *two: shows_never(*two, None), lambda *two: shows_never(*two, ())):
            for thing in THINGS + [[(0, 0), (0, 0)], ((0, 0), [0, 0])]:
                same(self, refusal(self, NoStanding, call, web, thing).part, "standing")
            for number in (True, 10 ** 30 + 1, None):
                same(self, refusal(self, NoStanding, call, web, ((0, number), (0, 0))).part, "numbers")


class TestPapers(unittest.TestCase):

    def setUp(self):
        # Posts 0 to 3 a ring of waves with two halves, 4 to 6 one without, 7 and 8 of none, 9 and 10 of all.
        rings = row_ties([0, 1, 2, 3]) + [(0, 3, 1, 1)] + row_ties([4, 5, 6]) + [(4, 6, 1, 1)]
        self.web = Web(11, rings + [(7, 8, 1, 5), (9, 10, 1, 1)])
        self.ring, self.odd, self.heavy = (0, 1, 2, 3), (4, 5, 6), (7, 8)
        # Half 0 of the ring steps, half 1 doesn't; the odd ring doesn't either, but owes at once; 8 had 1.
        self.standing = ((0, 5, 2, 3, -1, 0, 1, 0, 1, 0, 0), (1, 1, 1, 1, -1, 1, 0, 0, 0, -4, 0))

    def says(self, thing, wanted):
        same(self, shows_never(self.web, self.standing, thing), wanted)

    def test_of_none(self):
        good = ("none", (7, 8), (4, 9))
        self.says(good, True)
        self.says(("none", (7, 8), (40, 90)), True)
        bad = [
            ("step", (7, 8), (4, 9)), ("None", (7, 8), (4, 9)), (True, (7, 8), (4, 9)), ("none", (8, 7), (9, 4)),
            ("none", (7,), (4,)), ("none", [7, 8], (4, 9)), ("none", (7, 8), [4, 9]), ("none", (7, 8), (1, 1)),
            ("none", (7, 8), (2, 5)), list(good), ("none", (7, 8), (4, 9, 1)), ("none", (7, 8), (4,)),
            ("none", (7, 8)), good + (0,), good + ((),), ("none", (7, 8), (4, True)), ("none", (9, 10), (1, 1)),
            ("none", (0, 1, 2, 3), (1, 1, 1, 1)), ("none", (7, 8, 9, 10), (4, 9, 4, 9)), (good,), {"none": good},
        ]
        for thing in bad:
            self.says(thing, False)
        still = tuple(row[:7] + (0, 0) + row[9:] for row in self.standing)
        same(self, shows_never(self.web, still, good), False)
        for place in (7, 8):
            for which in (0, 1):
                moved = [list(row) for row in still]
                moved[which][place] = -1
                same(self, shows_never(self.web, tuple(tuple(row) for row in moved), good), True)

    def test_of_steps(self):
        same(self, steps_of(self.web, self.ring, (1, 1, 1, 1), self.standing), [-6, 0])
        same(self, steps_of(self.web, self.odd, (1, 1, 1), self.standing), [0])
        good = ("step", self.ring, (1, 1, 1, 1), 0)
        self.says(good, True)
        self.says(("step", self.ring, (3, 3, 3, 3), 0), True)
        for half in (1, 2, -1, True, False, None, "0", (0,), [0], 10 ** 999):
            self.says(good[:3] + (half,), False)
        for half in (0, 1, -1, False):
            self.says(("step", self.odd, (1, 1, 1), half), False)
            self.says(("step", (9, 10), (1, 1), half), False)
            self.says(("step", (7, 8), (4, 9), half), False)
        bad = [
            ("steps", self.ring, (1, 1, 1, 1), 0), ("none", self.ring, (1, 1, 1, 1), 0),
            ("owes", self.ring, (1, 1, 1, 1), 0), ("step", list(self.ring), (1, 1, 1, 1), 0),
            ("step", self.ring, [1, 1, 1, 1], 0), ("step", self.ring, (1, 1, 1, 2), 0),
            ("step", self.ring[1:], (1, 1, 1), 0), ("step", self.ring, (1, 1, 1, True), 0), good + (0,), good[:3],
            ("step", self.ring, (0, 0, 0, 0), 0), ("step", self.ring, (-1, -1, -1, -1), 0), list(good),
            ("step", (0, 1, 2, True), (1, 1, 1, 1), 0), ("step", (False, True, 2, 3), (1, 1, 1, 1), 0),
        ]
        for thing in bad:
            self.says(thing, False)
        other = (self.standing[0], (1, 1, 1, 2) + self.standing[1][4:])
        for half, wanted in ((0, True), (1, True), (-1, False), (-2, False), (2, False), (True, False), (False, False)):
            same(self, shows_never(self.web, other, good[:3] + (half,)), wanted)
        odd = (self.standing[0], self.standing[1][:4] + (0,) + self.standing[1][5:])
        for half, wanted in ((0, True), (1, False)):
            same(self, shows_never(self.web, odd, ("step", self.odd, (2, 2, 2), half)), wanted)

    def test_of_what_is_owed(self):
        run = slow_run(self.web, self.standing, 1001)
        for beat in list(range(12)) + [500, 999, 1000]:
            for posts in (self.ring, self.odd):
                for post in range(-1, 12):
                    wanted = post in posts and run[beat][1][post] < 0
                    self.says(("owes", posts, (1,) * len(posts), beat, post), wanted)
        good = ("owes", self.odd, (1, 1, 1), 0, 4)
        self.says(good, True)
        bad = [
            good[:3] + (-1, 4), good[:3] + (1001, 4), good[:3] + (10 ** 999, 4), good[:3] + (False, 4),
            good[:3] + ("0", 4), good[:3] + (None, 4), good[:3] + ((0,), 4), good[:3] + (0, None),
            good[:3] + (0, "4"), good[:3] + (0, [4]), good[:4], good + (0,), ("owe",) + good[1:],
            ("step",) + good[1:], ("none",) + good[1:], list(good), ("owes", [4, 5, 6], (1, 1, 1), 0, 4),
            ("owes", self.odd, [1, 1, 1], 0, 4), ("owes", self.odd, (1, 2, 1), 0, 4),
            ("owes", self.odd, (1, 1), 0, 4), ("owes", (9, 10), (1, 1), 0, 9), ("owes", (4, 5), (1, 1), 0, 4),
            ("owes", (7, 8), (4, 9), 1, 8),
        ]
        for thing in bad:
            self.says(thing, False)

    def test_a_truth_is_no_post(self):
        web = Web(3, row_ties([0, 1, 2]) + [(0, 2, 1, 1)])
        standing = ((0, 0, 0), (-1, -1, 0))
        for post, wanted in ((0, True), (1, True), (2, False), (False, False), (True, False)):
            same(self, shows_never(web, standing, ("owes", (0, 1, 2), (1, 1, 1), 0, post)), wanted)

    def test_the_edge_of_beats(self):
        web = Web(2, [(0, 1, 2, 2)])
        # What is there falls by 1 with each beat: down to nought at beat 999, and it owes at 1000 alone.
        standing = ((1000, 1000), (999, 999))
        run = slow_run(web, standing, 1001)
        self.assertEqual([run[beat][1] for beat in (999, 1000, 1001)], [(0, 0), (-1, -1), (0, 0)])
        for beat, wanted in ((998, False), (999, False), (1000, True), (1001, False)):
            same(self, shows_never(web, standing, ("owes", (0, 1), (1, 1), beat, 0)), wanted)
        later = ((1001, 1001), (1000, 1000))
        self.assertLess(slow_run(web, later, 1001)[-1][1][0], 0)
        same(self, shows_never(web, later, ("owes", (0, 1), (1, 1), 1001, 0)), False)

    def test_things_of_any_kind(self):
        others = [
            ("none",), ("step", ()), ("owes", (), (), 0, 0), ("owes", None, None, None, None), (None,) * 5,
            (("none", (7, 8), (4, 9)),), ("none", {7: 8}, (4, 9)), ([], [], []), ({}, (7, 8), (4, 9)),
        ]
        for thing in THINGS + others:
            self.says(thing, False)

    def test_papers_of_other_standings_show_nothing_here(self):
        chance = seeded(22)
        found = 0
        webs = [shuffled(size, ties, chance) for size, ties in waves_ties()[::5] + none_ties()[:6]]
        for web in webs:
            standings = [drawn(chance, len(web), 2) for _ in range(5)] + [nought(web)]
            papers = [never_paper(web, standing) for standing in standings]
            for standing in standings:
                for paper in papers:
                    if paper is not None:
                        wanted = is_paper(web, standing, paper)
                        found += not wanted
                        same(self, shows_never(web, standing, paper), wanted)
        self.assertGreater(found, 20)


if __name__ == "__main__":
    unittest.main()
