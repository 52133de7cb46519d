"""[43] Sights: which standings show them, and which sights no standing shows together."""

import unittest
from itertools import combinations

from giveback.debts import debts_of
from giveback.errors import NoSight, NoStanding, NotAll, TooMany
from giveback.shapes import home_of
from giveback.sights import blame, first_shown, showing, shows_all
from giveback.webs import Web, lots_of, need_standing
from helping import (SHAPES, THINGS, TOLD, Looked, drawn, nought, refusal, row_ties, same, seeded, shape_ties,
                     shape_webs, side_by_side, slow_behind, slow_run, word_of)

WORDS = ("owes", "has", "nought")
MIXED = Web(6, [(0, 3, 1, 1), (1, 4, 2, 2), (2, 5, 3, 3)])


def fits(case, debts):
    """Whether debts are at the places of a case, some of each must."""
    places, musts = case
    return all(debt in places for debt in debts) and all(any(debt in debts for debt in must) for must in musts)


def told_webs(chance, most):
    """Webs of parts whose trees are told, of shapes of at most so many posts each, alone."""
    for word, size in TOLD:
        if size <= most:
            order = list(range(size))
            chance.shuffle(order)
            yield Web(size, shape_ties(word, order, chance.random() < 0.5))


class TestShowsAll(unittest.TestCase):

    def test_beside_beats_gone_one_by_one(self):
        chance = seeded(110)
        for _, _, web in shape_webs(chance):
            beats = home_of(web, list(range(len(web))))[0]
            for most in (1, 10 ** 30):
                standing = drawn(chance, len(web), most)
                run = slow_run(web, standing, beats)
                true = [(beat, post, word_of(run[beat][1][post])) for beat in range(beats) for post in range(len(web))]
                same(self, shows_all(web, standing, true), True)
                same(self, shows_all(web, standing, tuple(true)), True)
                same(self, shows_all(web=web, standing=standing, sights=[]), True)
                for beat, post, word in chance.sample(true, 4):
                    for other in WORDS:
                        some = chance.sample(true, 3) + [(beat, post, other)]
                        same(self, shows_all(web, standing, some), word == other)

    def test_of_several_parts(self):
        chance = seeded(111)
        for _ in range(20):
            web = side_by_side([(6, shape_ties("arms", list(range(6)))), (2, row_ties([0, 1])), (1, [])], chance)
            standing = drawn(chance, 9, 3)
            for part in web.parts():
                beats = home_of(web, part)[0]
                run = slow_run(web, standing, beats)
                for beat in range(beats):
                    post = chance.choice(part)
                    for word in WORDS:
                        told = shows_all(web, standing, [(beat, post, word)])
                        same(self, told, word == word_of(run[beat][1][post]))

    def test_refused_in_their_order(self):
        good, web = nought(MIXED), Web(8, shape_ties("arms", list(range(8))))
        for thing in THINGS:
            same(self, refusal(self, NoStanding, shows_all, MIXED, thing, None).part, "standing")
            same(self, refusal(self, NotAll, shows_all, MIXED, good, thing).posts, (1, 4))
        same(self, refusal(self, NoStanding, shows_all, MIXED, ((0,) * 6, (True,) * 6), None).part, "numbers")
        same(self, refusal(self, NoSight, shows_all, web, nought(web), [(0, 0, "owes"), (32, 0, "has")]).number, 1)


class TestShowing(unittest.TestCase):

    def look_at(self, looked, sights):
        """All that is told of sights beside all standings."""
        web = looked.web
        halves = [(tuple(part), half) for part in web.parts() for half in (0, 1)]
        told = showing(web, sights)
        self.assertIs(type(told), list)
        same(self, [row[:2] for row in told], halves)
        for posts, half, cases in told:
            self.assertIs(type(cases), list)
            shown = looked.showing((posts, half), sights)
            for case in cases:
                self.look_at_case(looked.places[posts, half], case)
                self.assertTrue(any(fits(case, debts) for debts in shown))
            for debts, _ in looked.sums[posts, half]:
                self.assertEqual(any(fits(case, debts) for case in cases), debts in shown)
        standing = first_shown(web, sights)
        wanted = looked.blamed(sights)
        same(self, blame(web, sights), wanted)
        self.assertEqual(standing is None, wanted is not None)
        if standing is not None:
            need_standing(web, standing)
            same(self, shows_all(web, standing, sights), True)
            for beat, post, word in sights:
                same(self, word_of(slow_behind(web, standing, beat)[1][post]), word)
        return wanted

    def look_at_case(self, places, case):
        """A case is of places and musts as the words of [43] say."""
        self.assertEqual([type(case), type(case[0]), type(case[1])], [tuple, tuple, tuple])
        for row in (case[0],) + case[1]:
            self.assertIs(type(row), tuple)
            same(self, row, tuple(sorted(row)))
            self.assertEqual(len(set(row)), len(row))
            self.assertTrue(all(type(place) is tuple and place in places for place in row))
        self.assertTrue(all(case[1]))

    def test_each_sight_alone_and_two_by_two(self):
        chance = seeded(112)
        shown = {True: 0, False: 0}
        for web in told_webs(chance, 2):
            looked = Looked(web)
            sights = [(*place, word) for place in looked.half_at for word in WORDS]
            self.look_at(looked, [])
            for sight in sights:
                self.look_at(looked, [sight])
                self.look_at(looked, [sight, sight])
            for pair in chance.sample(list(combinations(sights, 2)), min(120, len(sights) * (len(sights) - 1) // 2)):
                shown[self.look_at(looked, list(pair)) is None] += 1
        self.assertGreater(min(shown.values()), 20)

    def test_all_sights_of_a_post_that_stands_alone(self):
        looked = Looked(Web(1, []))
        sights = [(beat, 0, word) for beat in range(4) for word in WORDS]
        for many in range(5):
            for some in combinations(sights, many):
                self.look_at(looked, list(some))

    def test_drawn_sights(self):
        chance = seeded(113)
        lengths = {}
        for web in told_webs(chance, 5):
            looked = Looked(web)
            sights = [(*place, word) for place in looked.half_at for word in WORDS]
            for _ in range(16):
                some = [chance.choice(sights) for _ in range(chance.randint(1, 7))]
                blamed = self.look_at(looked, some)
                if blamed is not None:
                    lengths[len(blamed)] = lengths.get(len(blamed), 0) + 1
        self.assertGreater(len(lengths), 1, lengths)

    def test_sights_of_one_standing(self):
        chance = seeded(114)
        for web in told_webs(chance, 5):
            beats = home_of(web, list(range(len(web))))[0]
            standing = drawn(chance, len(web), 2)
            run = slow_run(web, standing, beats)
            true = [(beat, post, word_of(run[beat][1][post])) for beat in range(beats) for post in range(len(web))]
            same(self, blame(web, true), None)
            found = first_shown(web, true)
            same(self, shows_all(web, found, true), True)
            # All signs of a round tell the debts' places, and these alone.
            same(self, [debt[:2] for debt in debts_of(web, found)], [debt[:2] for debt in debts_of(web, standing)])
            for posts, half, cases in showing(web, true):
                self.assertEqual(len(posts), len(web))
                debts = [debt[:2] for debt in debts_of(web, standing)]
                lots = lots_of(web, posts)
                own = [(beat, post) for beat, post in debts if (beat + (post in lots[1])) % 2 == half]
                self.assertTrue(any(fits(case, own) for case in cases))

    def test_sights_of_two_standings(self):
        chance = seeded(115)
        none = 0
        for web in told_webs(chance, 4):
            looked = Looked(web)
            runs = [slow_run(web, drawn(chance, len(web), 2), 20) for _ in range(2)]
            places = list(looked.half_at)
            for _ in range(8):
                some = [(beat, post, word_of(chance.choice(runs)[beat][1][post])) for beat, post in chance.sample(
                    places, min(6, len(places)))]
                none += self.look_at(looked, some) is not None
        self.assertGreater(none, 5)

    def test_contrary_sights(self):
        web = Web(3, row_ties([0, 1, 2]))
        looked = Looked(web)
        for one, other in combinations(WORDS, 2):
            for place in ((0, 0), (3, 1), (5, 2)):
                same(self, self.look_at(looked, [(*place, one), (*place, other)]), [0, 1])
                same(self, self.look_at(looked, [(1, 1, "has"), (*place, one), (1, 1, "has"), (*place, other)]), [1, 3])
        # The last of those that are told twice are left out first.
        same(self, self.look_at(looked, [(0, 0, "owes"), (0, 0, "has"), (0, 0, "owes"), (0, 0, "has")]), [0, 1])
        same(self, self.look_at(looked, [(0, 0, "owes"), (0, 1, "owes"), (0, 0, "has"), (0, 1, "has")]), [0, 2])

    def test_of_several_parts(self):
        chance = seeded(116)
        for _ in range(8):
            web = side_by_side([(2, row_ties([0, 1])), (1, []), (2, [(0, 1, 1, 3)]), (2, [(0, 1, 2, 1)])], chance)
            looked = Looked(web)
            sights = [(*place, word) for place in looked.half_at for word in WORDS]
            self.look_at(looked, [])
            for many in (1, 2, 5, 8):
                self.look_at(looked, chance.sample(sights, many))

    def test_as_many_sights_as_there_are(self):
        chance = seeded(117)
        for web in told_webs(chance, 3):
            looked = Looked(web)
            sights = [(*place, word) for place in looked.half_at for word in WORDS]
            chance.shuffle(sights)
            self.assertIsNotNone(self.look_at(looked, sights))
            for word in WORDS:
                self.look_at(looked, [(*place, word) for place in looked.half_at])
            same(self, blame(web, [(*place, "nought") for place in looked.half_at]), None)

    def test_what_is_told_is_the_askers_own(self):
        chance = seeded(118)
        for web in told_webs(chance, 5):
            place = (1, chance.randrange(len(web)))
            sights = [(*place, "has")]
            for call in (showing, first_shown, blame):
                kept = repr(call(web, sights))
                told = call(web, tuple(sights))
                same(self, repr(told), kept)
                for row in told if call == showing else []:
                    row[2].append("spoiled")
                if isinstance(told, list):
                    told.append("spoiled")
                same(self, repr(call(web=web, sights=sights)), kept)
            wrong = sights + [(*place, "nought")]
            blame(web, wrong).append(7)
            same(self, blame(web, wrong), [0, 1])
            same(self, wrong, [(*place, "has"), (*place, "nought")])


class TestRefusals(unittest.TestCase):

    def calls(self, web):
        return [showing, first_shown, blame, lambda web, sights: shows_all(web, nought(web), sights)]

    def test_no_sight(self):
        web = Web(4, [(0, 3, 1, 1)])
        good = [(0, 0, "owes"), (4, 3, "has"), (3, 1, "nought"), (0, 2, "owes")]
        bad = [
            (5, 0, "owes"), (4, 1, "owes"), (-1, 0, "owes"), (0, 4, "owes"), (0, -1, "has"), (False, 0, "owes"),
            (0, True, "has"), (0, 0, "OWES"), (0, 0, "owes "), (0, 0, ""), (0, 0, None), (0, 0, True), (0, 0, 0),
            (0, 0, ["owes"]), (0, 0, ("owes",)), (0, 0, {}), (0, 0), (0, 0, "owes", 0), [0, 0, "owes"], ("0", 0, "owes"),
            (None, 0, "owes"), (0, None, "owes"), ([0], 0, "owes"), (0, (0,), "owes"), ((0, 0, "owes"),), {0: 0},
            (10 ** 999, 0, "owes"), (0, 10 ** 999, "owes"),
        ]
        for call in self.calls(web):
            call(web, good)
            for thing in bad + THINGS:
                for at in range(5):
                    sights = good[:at] + [thing] + good[at:at + 1] + [None]
                    same(self, refusal(self, NoSight, call, web, sights).number, at)
                    same(self, refusal(self, NoSight, call, web, tuple(sights)).number, at)

    def test_no_list(self):
        web = Web(4, [(0, 3, 1, 1)])
        for call in self.calls(web):
            for thing in [thing for thing in THINGS if not isinstance(thing, (list, tuple))]:
                same(self, refusal(self, NoSight, call, web, thing).number, None)

    def test_not_all(self):
        for call in self.calls(MIXED):
            for thing in THINGS + [[(0, 0, "owes")]]:
                same(self, refusal(self, NotAll, call, MIXED, thing).posts, (1, 4))

    def test_too_many(self):
        chance = seeded(119)
        for word, size in SHAPES:
            alone = (size, shape_ties(word, list(range(size))))
            for parts in ([alone], [alone, (1, [])])[:1 + (size < 12)]:
                web = side_by_side(parts, chance)
                for call in (showing, first_shown, blame):
                    for sights in ([], [(0, 0, "has")]):
                        if (word, size) in TOLD:
                            call(web, sights)
                        else:
                            same(self, refusal(self, TooMany, call, web, sights).many, 200)
                    same(self, refusal(self, NoSight, call, web, [(0, 0, "has"), (0, 0, "had")]).number, 1)
                same(self, shows_all(web, nought(web), [(0, 0, "nought")]), True)


if __name__ == "__main__":
    unittest.main()
