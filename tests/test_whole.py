"""[1], [3], [4] What the document promises over all stages together."""

import unittest
from itertools import combinations

from giveback.beats import beat_back, beat_on
from giveback.between import beats_between
from giveback.caselooks import shows_cases
from giveback.cases import cases_of
from giveback.changes import without
from giveback.cuts import cut_paper, fewest_cuts, shows_cuts
from giveback.debts import debts_of, single, standing_of, together
from giveback.errors import NoBeats, NoDebts, NoPost, NoSight, NoStanding, NoText, NotAll, TooMany
from giveback.far import standing_behind
from giveback.kinds import is_kind, kinds_of
from giveback.peaks import first_above, most_ever
from giveback.returning import comes_back, never_paper, shows_never
from giveback.rings import cords_of, row_web, turned_cords
from giveback.shapes import home_beats, home_of, shape_of
from giveback.sights import blame, first_shown, showing, shows_all
from giveback.texts import read_debts, read_standing, read_web, show_debts, show_standing, show_web
from giveback.webs import Web
from giveback.works import Works
from helping import (THINGS, drawn, nought, random_web, refusal, row_ties, same, seeded, side_by_side, slow_behind,
                     slow_run, tie, word_of)

ROW = (4, row_ties([0, 1, 2, 3]))
WAVES = (2, [(0, 1, 2, 2)])
NONE = (3, [(0, 1, 3, 3), (1, 2, 1, 1)])


def mixed_webs(chance):
    """Webs with a part that isn't of the kind all, and the first such part."""
    for parts in ([ROW, WAVES], [NONE, ROW], [WAVES, NONE, ROW], [NONE, WAVES, (1, []), WAVES]):
        web = side_by_side(parts, chance)
        yield web, next(posts for posts, word, _ in kinds_of(web) if word != "all")


def all_webs(chance):
    """Webs of ten ties and fewer, drawn, without the fewest cuts: so all of them is of the kind all."""
    for _ in range(30):
        web = random_web(chance, chance.randint(1, 8), 1, chance.choice((1, 2, 3)))
        if len(web.ties()) <= 10:
            yield web, fewest_cuts(web)


class TestNotAll(unittest.TestCase):

    def test_behind_no_standing(self):
        asks = [(debts_of, ()), (together, (None,)), (most_ever, (None,)), (first_above, (None, 0)), (shows_all, (None,))]
        for web, first in mixed_webs(seeded(270)):
            standing = nought(web)
            for ask, handed in asks:
                for thing in THINGS:
                    same(self, refusal(self, NoStanding, ask, web, thing, *handed).part, "standing")
                rows = standing[0], (10 ** 30 + 1,) * len(web)
                same(self, refusal(self, NoStanding, ask, web, rows, *handed).part, "numbers")
            same(self, refusal(self, NoStanding, together, web, standing, None).part, "standing")
            same(self, refusal(self, NotAll, debts_of, web, standing).posts, first)
            same(self, refusal(self, NotAll, together, web, standing, standing).posts, first)
            # Where the first part would tell that they don't go together, too.
            one, other = ((number,) * len(web) for number in (5, -5))
            same(self, refusal(self, NotAll, together, web, (one, other), (other, one)).posts, first)
            same(self, refusal(self, NotAll, together, web, (one, one), (other, other)).posts, first)

    def test_ahead_of_what_comes_behind(self):
        for web, first in mixed_webs(seeded(271)):
            standing = nought(web)
            same(self, refusal(self, NotAll, home_beats, web).posts, first)
            for thing in THINGS + [12, -1]:
                for ask, handed in (
                    (most_ever, (standing, thing)), (first_above, (standing, thing, 0)), (single, (thing, 0)),
                    (single, (0, thing)), (single, (thing, thing)), (standing_of, (thing,)), (shows_all, (standing, thing)),
                    (showing, (thing,)), (first_shown, (thing,)), (blame, (thing,)), (read_debts, (thing,)),
                ):
                    same(self, refusal(self, NotAll, ask, web, *handed).posts, first)

    def test_of_the_kind_all_the_others_are_due(self):
        web = Web(8, row_ties([0, 1, 2, 3, 4, 5]))
        standing = nought(web)
        for thing in [None, True, 8, -1, [0]]:
            same(self, refusal(self, NoPost, most_ever, web, standing, thing).post, thing)
            same(self, refusal(self, NoPost, first_above, web, standing, thing, 0).post, thing)
            same(self, refusal(self, NoPost, single, web, thing, thing).post, thing)
            same(self, refusal(self, NoBeats, single, web, 9 if thing == 8 else thing, 0).beats, 9 if thing == 8 else thing)
            same(self, refusal(self, NoDebts, standing_of, web, [thing]).one, 0)
            same(self, refusal(self, NoText, read_debts, web, thing).asked, thing)
            for ask in (showing, first_shown, blame):
                same(self, refusal(self, NoSight, ask, web, [thing]).number, 0)
                same(self, refusal(self, TooMany, ask, web, []).many, 200)
            same(self, refusal(self, NoSight, shows_all, web, standing, [thing]).number, 0)

    def test_of_a_part(self):
        for web, _ in mixed_webs(seeded(272)):
            for posts, word, _ in kinds_of(web):
                for ask, handed in ((shape_of, ()), (home_of, ()), (cases_of, (0,)), (shows_cases, (0, []))):
                    if word != "all":
                        same(self, refusal(self, NotAll, ask, web, list(posts), *handed).posts, posts)
                    else:
                        ask(web, posts, *handed)


class TestKinds(unittest.TestCase):

    def test_just_one_kind_each_shown_by_its_weights(self):
        chance = seeded(273)
        for _ in range(60):
            web = random_web(chance, chance.randint(1, 12), 1, 3)
            for posts, word, weights in kinds_of(web):
                for other in ("all", "waves", "none"):
                    same(self, is_kind(web, posts, other, weights), other == word)

    def test_never_papers_of_all_that_does_not_come_back(self):
        chance = seeded(274)
        for _ in range(60):
            web = random_web(chance, chance.randint(1, 6), 1, 2)
            standing = drawn(chance, len(web), 5)
            paper = never_paper(web, standing)
            same(self, paper is None, comes_back(web, standing) is not None)
            same(self, shows_never(web, standing, paper), paper is not None)
            for _ in range(3):
                standing = beat_on(web, standing)
                if max(abs(n) for row in standing for n in row) <= 10 ** 30:
                    same(self, never_paper(web, standing) is None, paper is None)


class TestCuts(unittest.TestCase):

    def test_without_the_fewest_all_comes_back_and_is_told_by_its_debts(self):
        chance = seeded(275)
        for web, cuts in all_webs(chance):
            left = without(web, cuts)
            home = home_beats(left)
            for most in (1, 50):
                standing = drawn(chance, len(web), most)
                same(self, slow_behind(left, standing, home), standing)
                same(self, home % comes_back(left, standing), 0)
                same(self, standing_behind(left, standing, 10 ** 14 * home), standing)
                debts = debts_of(left, standing)
                same(self, standing_of(left, debts), standing)
                same(self, read_debts(left, show_debts(debts)), debts)

    def test_with_one_tied_again_some_part_is_not_of_the_kind_all(self):
        for web, cuts in all_webs(seeded(276)):
            for pair in cuts:
                left = without(web, [other for other in cuts if other != pair])
                words = [word for _, word, _ in kinds_of(left)]
                self.assertNotEqual(set(words), {"all"})
                wrong = next(posts for posts, word, _ in kinds_of(left) if word != "all")
                same(self, refusal(self, NotAll, home_beats, left).posts, wrong)
            same(self, shows_cuts(web, cuts, cut_paper(web)), True)


class TestDebts(unittest.TestCase):

    def test_what_goes_together_runs_together(self):
        chance = seeded(277)
        seen = set()
        for web, cuts in all_webs(chance):
            left = without(web, cuts)
            for most in (1, 1, 3):
                one, other = drawn(chance, len(web), most), drawn(chance, len(web), most)
                fit = together(left, one, other)
                seen.add(fit)
                total = added(one, other)
                beats = min(home_beats(left), 100)
                runs = slow_run(left, one, beats), slow_run(left, other, beats)
                same_run = [added(low, high) for low, high in zip(*runs)] == slow_run(left, total, beats)
                self.assertTrue(same_run or not fit)
                for debt in debts_of(left, one):
                    same(self, together(left, one, single(left, *debt[:2])), True)
            for one, other in combinations(debts_of(left, drawn(chance, len(web), 2))[:6], 2):
                same(self, together(left, single(left, *one[:2]), single(left, *other[:2])), True)
        same(self, seen, {True, False})

    def test_cords_turn_as_beats_go(self):
        chance = seeded(278)
        for size in range(1, 13):
            standing = drawn(chance, size, 10 ** 9)
            behind = beat_on(row_web(size), standing)
            same(self, cords_of(size, behind), turned_cords(size, cords_of(size, standing)))
            same(self, beat_back(row_web(size), behind), standing)

    def test_what_was_seen(self):
        chance = seeded(279)
        web = side_by_side([(3, row_ties([0, 1, 2])), (2, [tie(0, 1, 1, 2)])], chance)
        rounds = {post: home_of(web, part)[0] for part in web.parts() for post in part}
        for _ in range(20):
            standing = drawn(chance, len(web), 3)
            run = slow_run(web, standing, max(rounds.values()))
            places = [(beat, post) for post in rounds for beat in range(rounds[post])]
            sights = [(beat, post, word_of(run[beat][1][post])) for beat, post in chance.sample(places, 8)]
            same(self, shows_all(web, standing, sights), True)
            same(self, shows_all(web, first_shown(web, sights), sights), True)
            same(self, blame(web, sights), None)


class TestWorks(unittest.TestCase):

    def test_a_works_goes_as_the_functions_go(self):
        chance = seeded(280)
        for web, cuts in all_webs(chance):
            left = without(web, cuts)
            works = Works(web)
            for pair in cuts:
                works.cut(*pair)
            self.assertTrue(works.web() == left)
            standing = nought(web)
            for post in range(len(web)):
                number = chance.randint(-99, 99)
                works.put(post, number)
                standing = standing[0], tuple(n + number * (k == post) for k, n in enumerate(standing[1]))
                works.go(1)
                standing = beat_on(left, standing)
                same(self, works.standing(), standing)
            same(self, (works.kinds(), works.comes_back()), (kinds_of(left), comes_back(left, standing)))
            for beats in (5, -9, 10 ** 18, -10 ** 18 + 3):
                there = standing_behind(left, standing, beats)
                works.go(beats)
                same(self, works.standing(), there)
                least = beats_between(left, standing, there)
                same(self, least, beats % comes_back(left, standing))
                standing = there

    def test_texts_of_a_works(self):
        chance = seeded(281)
        for web, _ in all_webs(chance):
            works = Works(read_web(show_web(web)))
            for post in range(len(web)):
                works.put(post, chance.randint(-10 ** 18, 10 ** 18))
            works.go(2)
            same(self, read_standing(web, show_standing(works.standing())), works.standing())


def added(one, other):
    """The sum of two standings, number by number."""
    return tuple(tuple(low + high for low, high in zip(*rows)) for rows in zip(one, other))


if __name__ == "__main__":
    unittest.main()
