"""[40] Debts and single debts. [41] The standing of debts. [42] What goes together."""

import unittest

from giveback.debts import debts_of, single, standing_of, together
from giveback.errors import NoBeats, NoDebts, NoPost, NoStanding, NotAll
from giveback.far import standing_behind
from giveback.shapes import home_beats, home_of
from giveback.webs import Web
from helping import (SHAPES, THINGS, drawn, none_ties, nought, refusal, row_ties, same, seeded, shape_ties, shape_webs,
                     shuffled, side_by_side, slow_behind, slow_run, waves_ties, whole_throughout)

# The first part that isn't of the kind all is (1, 4).
MIXED = Web(6, [(0, 3, 1, 1), (1, 4, 2, 2), (2, 5, 3, 3)])


def homes(web):
    """The beats of the home of each post's part."""
    return {post: home_of(web, part)[0] for part in web.parts() for post in part}


def slow_debts(web, standing):
    """The debts of a standing, straight by the words of [40]."""
    beats = homes(web)
    run = slow_run(web, standing, max(beats.values()))
    return sorted(
        (beat, post, -run[beat][1][post]) for post in beats for beat in range(beats[post]) if run[beat][1][post] < 0)


def slow_single(web, beat, post):
    """The standing of a single debt, by beats back gone one by one."""
    there = (0,) * len(web), tuple(-int(k == post) for k in range(len(web)))
    return slow_behind(web, there, -beat)


def slow_together(web, one, other, most):
    """Whether two standings go together, by so many beats gone one by one."""
    return not any(
        low * high < 0 for (_, row), (_, beside) in zip(slow_run(web, one, most), slow_run(web, other, most))
        for low, high in zip(row, beside))


def summed(web, standings):
    """The sum of standings, each so many times."""
    rows = [[0] * len(web), [0] * len(web)]
    for standing, many in standings:
        for row, numbers in zip(rows, standing):
            for post, number in enumerate(numbers):
                row[post] += many * number
    return tuple(tuple(row) for row in rows)


def several(chance):
    """Webs of several parts of the kind all, posts numbered anyhow."""
    lots = [
        [("row", 2), ("middle", 4), ("row", 1), ("fork", 5)], [("three", 2), ("end", 4), ("arms", 6)],
        [("row", 1), ("row", 1), ("row", 3), ("end", 2)], [("row", 1)] * 12,
    ]
    for parts in lots:
        yield side_by_side([(size, shape_ties(word, list(range(size)))) for word, size in parts], chance)


class TestDebts(unittest.TestCase):

    def test_by_hand(self):
        web = Web(1, [])
        same(self, debts_of(web, ((3,), (5,))), [(1, 0, 3), (2, 0, 5)])
        same(self, debts_of(web, ((-3,), (-5,))), [(0, 0, 5), (3, 0, 3)])
        same(self, debts_of(web, ((0,), (0,))), [])
        same(self, debts_of(Web(2, row_ties([0, 1])), ((0, 0), (-1, 0))), [(0, 0, 1)])
        same(self, debts_of(web=Web(2, row_ties([0, 1])), standing=((0, 0), (0, -9))), [(0, 1, 9)])

    def test_beside_beats_gone_one_by_one(self):
        chance = seeded(90)
        webs = [web for _, _, web in shape_webs(chance)] + [web for _ in range(5) for web in several(chance)]
        for web in webs:
            for most in (1, 3, 10 ** 28):
                standing = drawn(chance, len(web), most)
                told = debts_of(web, standing)
                self.assertIs(type(told), list)
                same(self, told, slow_debts(web, standing))
            same(self, debts_of(web, nought(web)), [])

    def test_unlike_standings_have_unlike_debts(self):
        chance = seeded(91)
        for web in several(chance):
            seen = {}
            for _ in range(150):
                standing = drawn(chance, len(web), 1)
                self.assertEqual(seen.setdefault(str(debts_of(web, standing)), standing), standing)

    def test_refused_in_their_order(self):
        for thing in THINGS:
            same(self, refusal(self, NoStanding, debts_of, MIXED, thing).part, "standing")
        same(self, refusal(self, NoStanding, debts_of, MIXED, ((0,) * 6, (True,) * 6)).part, "numbers")
        same(self, refusal(self, NotAll, debts_of, MIXED, nought(MIXED)).posts, (1, 4))


class TestSingle(unittest.TestCase):

    def test_each_post_and_beat(self):
        chance = seeded(92)
        small = [web for word, order, web in shape_webs(chance) if len(order) <= 5]
        for web in small + list(several(chance))[:3]:
            for post, beats in homes(web).items():
                for beat in range(beats):
                    told = single(web, beat, post)
                    self.assertTrue(whole_throughout(told))
                    same(self, told, slow_single(web, beat, post))
                    same(self, single(web=web, beat=beat, post=post), told)
                    same(self, debts_of(web, told), [(beat, post, 1)])
                    there = slow_behind(web, told, beat)
                    same(self, there, slow_single(web, 0, post))

    def test_of_greater_parts(self):
        chance = seeded(93)
        for word, order, web in shape_webs(chance):
            if len(order) > 5:
                beats = home_of(web, sorted(order))[0]
                for beat in (0, chance.randrange(beats), beats - 1):
                    post = chance.choice(order)
                    same(self, single(web, beat, post), slow_single(web, beat, post))
                    same(self, debts_of(web, single(web, beat, post)), [(beat, post, 1)])

    def test_refused_in_their_order(self):
        web = Web(4, [(0, 3, 1, 1)])
        for thing in THINGS:
            same(self, refusal(self, NotAll, single, MIXED, thing, thing).posts, (1, 4))
            same(self, refusal(self, NotAll, single, MIXED, 0, 0).posts, (1, 4))
            if repr(thing) not in ("0", "1"):
                for beat in (0, 99, None):
                    same(self, refusal(self, NoPost, single, web, beat, thing).post, thing)
            if repr(thing) not in ("0", "1"):
                same(self, refusal(self, NoBeats, single, web, thing, 1).beats, thing)
        for post in (4, -1, 12):
            same(self, refusal(self, NoPost, single, web, None, post).post, post)
        for post, beats in ((0, 5), (1, 4), (2, 4), (3, 5)):
            for beat in (beats, beats + 1, -1, -beats, 10 ** 999):
                same(self, refusal(self, NoBeats, single, web, beat, post).beats, beat)
            self.assertTrue(whole_throughout(single(web, beats - 1, post)))


class TestStandingOf(unittest.TestCase):

    def test_the_standing_again(self):
        chance = seeded(94)
        webs = [web for _, _, web in shape_webs(chance)] + [web for _ in range(4) for web in several(chance)]
        for web in webs:
            for most in (1, 10 ** 28):
                standing = drawn(chance, len(web), most)
                debts = debts_of(web, standing)
                same(self, standing_of(web, debts), standing)
                chance.shuffle(debts)
                same(self, standing_of(web, debts), standing)
                same(self, standing_of(web=web, debts=tuple(debts)), standing)
            same(self, standing_of(web, []), nought(web))
            same(self, standing_of(web, ()), nought(web))

    def test_owed_however_great(self):
        chance = seeded(95)
        for web in several(chance):
            debts = [(beat, post, chance.randint(10 ** 40, 10 ** 50)) for beat, post, _ in debts_of(
                web, drawn(chance, len(web), 9))]
            told = standing_of(web, debts)
            same(self, told, summed(web, [(slow_single(web, beat, post), owed) for beat, post, owed in debts]))
            same(self, slow_debts(web, told), debts)
        same(self, standing_of(Web(1, []), [(3, 0, 10 ** 900)]), ((-10 ** 900,), (0,)))

    def test_any_debts_that_go_together(self):
        chance = seeded(96)
        for web in several(chance):
            singles = [(beat, post) for post, beats in homes(web).items() for beat in range(beats)]
            for _ in range(6):
                chosen = []
                for beat, post in chance.sample(singles, min(len(singles), 60)):
                    try:
                        standing_of(web, chosen + [(beat, post, 1)])
                    except NoDebts:
                        continue
                    chosen.append((beat, post, chance.randint(1, 9)))
                told = standing_of(web, chosen)
                same(self, slow_debts(web, told), sorted(chosen))

    def test_two_that_do_not_go_together(self):
        chance = seeded(97)
        small = [web for word, order, web in shape_webs(chance) if len(order) <= 3]
        small.append(Web(5, row_ties([0, 3, 1]) + [(2, 4, 1, 2)]))
        for web in small:
            parts = {post: part for part in web.parts() for post in part}
            singles = [(beat, post) for post, beats in homes(web).items() for beat in range(beats)]
            runs = {one: slow_run(web, slow_single(web, *one), home_beats(web)) for one in singles}
            fit = {}
            for one in singles:
                for other in singles:
                    clash = one == other or any(low * high < 0 for here, there in zip(
                        runs[one], runs[other]) for low, high in zip(here[1], there[1]))
                    fit[one, other] = parts[one[1]] != parts[other[1]] or not clash
            for one in singles:
                for other in singles:
                    debts = [(*one, 2), (*other, 3)]
                    if fit[one, other]:
                        same(self, debts_of(web, standing_of(web, debts)), sorted(debts))
                    else:
                        error = refusal(self, NoDebts, standing_of, web, debts)
                        same(self, (error.one, error.other), (0, 1))
            for _ in range(30):
                debts = [(*chance.choice(singles), chance.randint(1, 5)) for _ in range(chance.randint(2, 7))]
                places = [(one, other) for one in range(len(debts)) for other in range(one + 1, len(debts))]
                wrong = [(one, other) for one, other in places if not fit[debts[one][:2], debts[other][:2]]]
                if wrong:
                    error = refusal(self, NoDebts, standing_of, web, debts)
                    same(self, (error.one, error.other), wrong[0])
                else:
                    same(self, debts_of(web, standing_of(web, debts)), sorted(debts))

    def test_by_one_and_then_by_other(self):
        web = Web(1, [])
        # (0, 0) and (2, 0) don't go together, nor do (1, 0) and (3, 0).
        for debts, wanted in (
                ([(0, 0, 1), (1, 0, 1), (3, 0, 1), (2, 0, 1)], (0, 3)), ([(1, 0, 1), (0, 0, 1), (2, 0, 1)], (1, 2)),
                ([(0, 0, 1), (1, 0, 2), (1, 0, 3)], (1, 2)), ([(0, 0, 1), (0, 0, 1), (2, 0, 1)], (0, 1)),
                ([(3, 0, 1), (0, 0, 1), (0, 0, 1), (1, 0, 1)], (0, 3))):
            error = refusal(self, NoDebts, standing_of, web, debts)
            same(self, (error.one, error.other), wanted)
            error = refusal(self, NoDebts, standing_of, web, tuple(debts))
            same(self, (error.one, error.other), wanted)

    def test_debts_of_unlike_parts_go_together(self):
        web = Web(3, [])
        debts = [(2, 0, 1), (0, 1, 5), (0, 2, 7), (3, 0, 1)]
        same(self, debts_of(web, standing_of(web, debts)), sorted(debts))

    def test_not_as_told(self):
        web = Web(4, [(0, 3, 1, 1)])
        good = [(0, 0, 5), (4, 3, 1), (3, 1, 10 ** 999)]
        self.assertTrue(whole_throughout(standing_of(web, good)))
        bad = [
            (0, 0, 0), (0, 0, -1), (0, 0, True), (False, 0, 1), (0, False, 1), (0, True, 1), (5, 0, 1), (-1, 0, 1),
            (4, 1, 1), (0, 4, 1), (0, -1, 1), [0, 0, 1], (0, 0), (0, 0, 1, 1), (0, 0, "1"), ("0", 0, 1), (0, None, 1),
            (0, [0], 1), (0, {}, 1), ((0, 0, 1),), {0: 0}, (10 ** 999, 0, 1), (0, 10 ** 999, 1),
        ]
        for thing in bad + THINGS:
            for at in range(4):
                for debts in (good[:at] + [thing] + good[at:], good[:at] + [thing, (0, 0, 5), None]):
                    error = refusal(self, NoDebts, standing_of, web, debts)
                    same(self, (error.one, error.other), (at, None))
                    error = refusal(self, NoDebts, standing_of, web, tuple(debts))
                    same(self, (error.one, error.other), (at, None))

    def test_what_is_not_as_told_goes_ahead_of_what_does_not_go_together(self):
        error = refusal(self, NoDebts, standing_of, Web(1, []), [(0, 0, 1), (0, 0, 1), (2, 0, 1), (4, 0, 1), None])
        same(self, (error.one, error.other), (3, None))

    def test_no_list(self):
        for thing in [thing for thing in THINGS if not isinstance(thing, (list, tuple))]:
            error = refusal(self, NoDebts, standing_of, Web(2, []), thing)
            same(self, (error.one, error.other), (None, None))

    def test_not_all_ahead_of_all(self):
        for thing in THINGS + [[(0, 0, 1), (0, 0, 1)]]:
            same(self, refusal(self, NotAll, standing_of, MIXED, thing).posts, (1, 4))
        chance = seeded(98)
        for size, ties in waves_ties()[::9] + none_ties()[::3]:
            web = shuffled(size, ties, chance)
            for call, handed in ((standing_of, ([],)), (debts_of, (nought(web),)), (single, (0, 0)), (
                    together, (nought(web), nought(web)))):
                same(self, refusal(self, NotAll, call, web, *handed).posts, tuple(range(size)))


class TestTogether(unittest.TestCase):

    def look_at(self, web, one, other, wanted):
        """It is told so, either one first; and where they do, the sum runs as both."""
        same(self, together(web, one, other), wanted)
        same(self, together(web, other, one), wanted)
        if wanted:
            beats = home_beats(web)
            runs = [slow_run(web, standing, beats) for standing in (one, other, summed(web, [(one, 1), (other, 1)]))]
            for first, second, both in zip(*runs):
                same(self, summed(web, [(first, 1), (second, 1)]), both)

    def test_by_hand(self):
        web = Web(1, [])
        self.look_at(web, ((3,), (5,)), ((1,), (1,)), True)
        self.look_at(web, ((3,), (5,)), ((1,), (-1,)), False)
        self.look_at(web, ((3,), (5,)), ((-1,), (1,)), False)
        self.look_at(web, ((3,), (0,)), ((0,), (-1,)), True)
        same(self, together(web=web, one=((3,), (0,)), other=((-1,), (0,))), False)

    def test_a_standing_and_its_debts(self):
        chance = seeded(99)
        webs = [web for _, _, web in shape_webs(chance)][::3] + list(several(chance))
        for web in webs:
            standing = drawn(chance, len(web), 5)
            debts = debts_of(web, standing)
            for beat, post, owed in chance.sample(debts, min(3, len(debts))):
                self.look_at(web, standing, single(web, beat, post), True)
                self.look_at(web, standing, summed(web, [(single(web, beat, post), owed)]), True)
            self.look_at(web, standing, standing, True)
            self.look_at(web, standing, summed(web, [(standing, 7)]), True)
            self.look_at(web, standing, nought(web), True)
            self.look_at(web, nought(web), nought(web), True)
            contrary = summed(web, [(standing, -1)])
            self.look_at(web, standing, contrary, standing == nought(web))

    def test_drawn_ones(self):
        chance = seeded(100)
        told = {True: 0, False: 0}
        webs = [web for _, order, web in shape_webs(chance) if len(order) <= 4] + list(several(chance))[2:]
        for web in webs:
            for _ in range(12):
                standing = drawn(chance, len(web), 2)
                debts = debts_of(web, standing)
                part = standing_of(web, chance.sample(debts, len(debts) // 2))
                moved = summed(web, [(part, 1), (slow_single(web, 0, chance.randrange(len(web))), 1)])
                for other in (drawn(chance, len(web), 1), part, moved):
                    wanted = slow_together(web, standing, other, home_beats(web))
                    told[wanted] += 1
                    self.look_at(web, standing, other, wanted)
        self.assertGreater(min(told.values()), 50)

    def test_one_place_alone(self):
        chance = seeded(101)
        for word, size in SHAPES:
            if size <= 4:
                web = Web(size, shape_ties(word, list(range(size))))
                standing = drawn(chance, size, 3)
                beat, post = chance.randrange(home_of(web, list(range(size)))[0]), chance.randrange(size)
                there = standing_behind(web, standing, beat)[1][post]
                wanted = slow_together(web, standing, single(web, beat, post), home_beats(web))
                self.look_at(web, standing, single(web, beat, post), wanted)
                self.assertTrue(not wanted or there <= 0)

    def test_refused_in_their_order(self):
        good = nought(MIXED)
        wrong = ((0,) * 6, (True,) * 6)
        for thing in THINGS:
            same(self, refusal(self, NoStanding, together, MIXED, thing, wrong).part, "standing")
            same(self, refusal(self, NoStanding, together, MIXED, wrong, thing).part, "numbers")
            same(self, refusal(self, NoStanding, together, MIXED, good, thing).part, "standing")
        same(self, refusal(self, NoStanding, together, MIXED, good, wrong).part, "numbers")
        same(self, refusal(self, NotAll, together, MIXED, good, good).posts, (1, 4))


if __name__ == "__main__":
    unittest.main()
