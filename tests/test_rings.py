"""[45] Cords of debts on a row's ring. [46] The cords of standings, and how a beat turns them."""

import unittest
from itertools import combinations, product

from giveback.errors import NoBeats, NoCords, NoPost, NoStanding, NoWeb
from giveback.rings import cord_at, cords_of, row_web, standing_by, turned_cords
from giveback.webs import Web
from helping import THINGS, drawn, nought, refusal, row_ties, same, seeded, slow_behind, slow_run, whole_throughout

SIZES = range(1, 13)
# What is no size; whole numbers of THINGS from 1 to 12 are sizes.
NO_SIZES = [0, 13, -1, 10 ** 999, [3], (3,), "3", [], None] + [
    thing for thing in THINGS if type(thing) is not int or not 1 <= thing <= 12]


def slow_cord(size, post, beat):
    """The cord of a debt, straight by the words of [45]."""
    half = (post + beat) % 2
    c = -(beat // 2) if half == 0 else -((beat + 1) // 2)
    corners = [(c - (post + 1) // 2) % (size + 3), (c + 2 + post // 2) % (size + 3)]
    return half, min(corners), max(corners)


def diagonals(size):
    """All (low, high) of corners that aren't neighbours."""
    rim = size + 3
    return [(low, high) for low, high in combinations(range(rim), 2) if (high - low) % rim not in (1, rim - 1)]


def crossing(one, other):
    """Whether two cords cross: just one end of the other lies between the ends of the one, none is shared."""
    (low, high), (below, above) = one[:2], other[:2]
    return len({low, high, below, above}) == 4 and (low < below < high) != (low < above < high)


def slow_cords(size, standing):
    """The cords of a row's standing, by beats gone one by one."""
    run = slow_run(row_web(size), standing, size + 2)
    halves = ([], [])
    for beat, (_, now) in enumerate(run):
        for post in range(size):
            if now[post] < 0:
                half, low, high = slow_cord(size, post, beat)
                halves[half].append((low, high, -now[post]))
    return sorted(halves[0]), sorted(halves[1])


def drawn_half(size, chance, most):
    """A list of cords that don't cross, drawn, in any order, of up to as many times as most."""
    found = []
    for pair in chance.sample(diagonals(size), len(diagonals(size))):
        if not any(crossing(pair, other) for other in found):
            found.append(pair)
    found = found[:chance.randint(0, len(found))]
    return [pair + (chance.randint(1, most),) for pair in found]


class TestRowWeb(unittest.TestCase):

    def test_each_size(self):
        for size in SIZES:
            web = row_web(size)
            self.assertIs(type(web), Web)
            same(self, (len(web), web.ties()), (size, row_ties(list(range(size)))))
            self.assertTrue(row_web(size=size) == web)

    def test_no_size(self):
        for size in NO_SIZES:
            same(self, refusal(self, NoWeb, row_web, size).part, "size")


class TestCordAt(unittest.TestCase):

    def test_each_post_and_beat(self):
        for size in SIZES:
            for post in range(size):
                for beat in range(size + 3):
                    same(self, cord_at(size, post, beat), slow_cord(size, post, beat))
                    same(self, cord_at(beat=beat, size=size, post=post), cord_at(size, post, beat))

    def test_by_hand(self):
        same(self, [cord_at(1, 0, beat) for beat in range(4)], [(0, 0, 2), (1, 1, 3), (0, 1, 3), (1, 0, 2)])
        same(self, [cord_at(2, 0, beat) for beat in range(5)], [(0, 0, 2), (1, 1, 4), (0, 1, 4), (1, 0, 3), (0, 0, 3)])
        same(self, [cord_at(2, 1, beat) for beat in range(5)], [(1, 2, 4), (0, 2, 4), (1, 1, 3), (0, 1, 3), (1, 0, 2)])
        same(self, cord_at(12, 11, 14), (1, 0, 2))

    def test_in_each_half_each_two_that_are_not_neighbours_once(self):
        for size in SIZES:
            told = [cord_at(size, post, beat) for post in range(size) for beat in range(size + 3)]
            for half in (0, 1):
                same(self, sorted(cord[1:] for cord in told if cord[0] == half), diagonals(size))

    def test_debts_of_a_half_go_together_just_where_cords_do_not_cross(self):
        for size in range(1, 6):
            web = row_web(size)
            runs = {}
            for post, beat in product(range(size), range(size + 3)):
                there = (0,) * size, tuple(-int(k == post) for k in range(size))
                runs[cord_at(size, post, beat)] = slow_run(web, slow_behind(web, there, -beat), 2 * size + 6)
            for one, other in combinations(runs, 2):
                fit = not any(
                    low * high < 0 for (_, row), (_, beside) in zip(runs[one], runs[other])
                    for low, high in zip(row, beside))
                if one[0] == other[0]:
                    same(self, fit, not crossing(one[1:], other[1:]))

    def test_refused_in_their_order(self):
        for size in NO_SIZES:
            for post, beat in ((0, 0), (None, 0), (0, None), ([1], [1])):
                same(self, refusal(self, NoWeb, cord_at, size, post, beat).part, "size")
        for size in (1, 2, 7, 12):
            for thing in [size, size + 1, -1] + [thing for thing in THINGS if type(thing) is not int]:
                for beat in (0, -1, None, thing):
                    same(self, refusal(self, NoPost, cord_at, size, thing, beat).post, thing)
            for thing in [size + 3, size + 4, -1, 10 ** 999] + [thing for thing in THINGS if type(thing) is not int]:
                same(self, refusal(self, NoBeats, cord_at, size, size - 1, thing).beats, thing)
            same(self, cord_at(size, 0, size + 2), slow_cord(size, 0, size + 2))


class TestCordsOf(unittest.TestCase):

    def look_at(self, size, standing):
        told = cords_of(size, standing)
        self.assertEqual([type(told)] + [type(row) for row in told], [tuple, list, list])
        same(self, told, slow_cords(size, standing))
        for row in told:
            same(self, row, sorted(row))
            self.assertFalse(any(crossing(one, other) for one, other in combinations(row, 2)))
            self.assertEqual(len({cord[:2] for cord in row}), len(row))
        return told

    def test_beside_beats_gone_one_by_one(self):
        chance = seeded(200)
        for size in SIZES:
            for most in (1, 2, 9, 10 ** 30):
                for _ in range(4):
                    standing = drawn(chance, size, most)
                    told = self.look_at(size, standing)
                    same(self, cords_of(standing=standing, size=size), told)
            top = tuple((10 ** 30 * sign,) * size for sign in (1, -1))
            self.look_at(size, top)

    def test_nought_and_single_debts(self):
        for size in SIZES:
            web = row_web(size)
            same(self, cords_of(size, nought(web)), ([], []))
            for post in range(size):
                for beat in range(0, size + 3, 1 if size < 6 else 4):
                    there = (0,) * size, tuple(-7 * int(k == post) for k in range(size))
                    half, low, high = cord_at(size, post, beat)
                    wanted = ([(low, high, 7)], []) if half == 0 else ([], [(low, high, 7)])
                    same(self, cords_of(size, slow_behind(web, there, -beat)), wanted)

    def test_one_half_alone(self):
        chance = seeded(201)
        for size in SIZES:
            for half in (0, 1):
                old, now = drawn(chance, size, 99)
                now = tuple(number * (post % 2 == half) for post, number in enumerate(now))
                old = tuple(number * (post % 2 != half) for post, number in enumerate(old))
                same(self, self.look_at(size, (old, now))[1 - half], [])

    def test_refused_in_their_order(self):
        for size in NO_SIZES:
            for standing in (((0,), (0,)), None, size):
                same(self, refusal(self, NoWeb, cords_of, size, standing).part, "size")
        for size in (1, 5, 12):
            for thing in THINGS:
                if (size, repr(thing)) != (1, "((0,), (0,))"):
                    same(self, refusal(self, NoStanding, cords_of, size, thing).part, "standing")
            for bad in (10 ** 30 + 1, -10 ** 30 - 1, True, None):
                rows = ((0,) * size, (0,) * (size - 1) + (bad,))
                same(self, refusal(self, NoStanding, cords_of, size, rows).part, "numbers")


class TestStandingBy(unittest.TestCase):

    def test_the_standing_whose_cords_they_are(self):
        chance = seeded(202)
        full = 0
        for size in SIZES:
            for most in (1, 3, 10 ** 25):
                for _ in range(5):
                    cords = drawn_half(size, chance, most), drawn_half(size, chance, most)
                    full += max(len(row) for row in cords) == size
                    told = standing_by(size, cords)
                    self.assertTrue(whole_throughout(told))
                    same(self, slow_cords(size, told), tuple(sorted(row) for row in cords))
                    same(self, cords_of(size, told), tuple(sorted(row) for row in cords))
                    for kind in (list, tuple):
                        mixed = tuple(kind(chance.sample(row, len(row))) for row in cords)
                        same(self, standing_by(cords=mixed, size=size), told)
        self.assertGreater(full, 10)

    def test_there_and_back_again(self):
        chance = seeded(203)
        for size in SIZES:
            for most in (1, 9, 10 ** 30):
                standing = drawn(chance, size, most)
                same(self, standing_by(size, cords_of(size, standing)), standing)
            same(self, standing_by(size, ([], ())), nought(row_web(size)))

    def test_greater_numbers(self):
        same(self, standing_by(1, ([(0, 2, 10 ** 900)], [(1, 3, 5)])), ((5,), (-10 ** 900,)))
        same(self, standing_by(1, ([(1, 3, 4)], [(0, 2, 5)])), ((-5,), (4,)))


class TestTurnedCords(unittest.TestCase):

    def test_beat_by_beat(self):
        chance = seeded(204)
        for size in SIZES:
            for most in (1, 10 ** 25):
                cords = drawn_half(size, chance, most), drawn_half(size, chance, most)
                standing = standing_by(size, cords)
                first = cords_of(size, standing)
                for number in range(2 * size + 6):
                    shuffled = tuple(
                        chance.choice((list, tuple))(chance.sample(row, len(row))) for row in cords)
                    cords = turned_cords(size, shuffled)
                    self.assertEqual([type(cords)] + [type(row) for row in cords], [tuple, list, list])
                    same(self, turned_cords(cords=shuffled, size=size), cords)
                    standing = slow_run(row_web(size), standing, 1)[1]
                    same(self, cords, slow_cords(size, standing))
                same(self, cords, first)

    def test_by_hand(self):
        cords = [(1, 4, 2), (1, 3, 3)], [(2, 4, 5), (0, 4, 1), (1, 4, 7)]
        same(self, turned_cords(3, cords), ([(1, 5, 1), (2, 5, 7), (3, 5, 5)], [(1, 3, 3), (1, 4, 2)]))
        same(self, turned_cords(3, ([], [(1, 5, 9)])), ([(0, 2, 9)], []))
        same(self, turned_cords(12, ((), ())), ([], []))

    def test_what_is_told_is_the_askers_own(self):
        cords = [(0, 2, 3)], [(1, 4, 7)]
        told = turned_cords(3, cords)
        told[0].clear()
        told[1].append(None)
        same(self, cords, ([(0, 2, 3)], [(1, 4, 7)]))
        same(self, turned_cords(3, cords), ([(2, 5, 7)], [(0, 2, 3)]))


class TestNoCords(unittest.TestCase):

    def wrong(self, size, cords, half, one, other):
        for ask in (standing_by, turned_cords):
            error = refusal(self, NoCords, ask, size, cords)
            same(self, (error.half, error.one, error.other), (half, one, other))

    def test_no_tuple_of_two(self):
        things = [[[], []], ([], [], []), ([],), ((), (), ()), {0: [], 1: []}, [[(0, 2, 1)], []]]
        for thing in things + [thing for thing in THINGS if type(thing) is not tuple or len(thing) != 2]:
            for size in (1, 4, 12):
                self.wrong(size, thing, None, None, None)

    def test_no_list(self):
        for thing in [thing for thing in THINGS if not isinstance(thing, (list, tuple))]:
            self.wrong(3, (thing, []), 0, None, None)
            self.wrong(3, (thing, thing), 0, None, None)
            self.wrong(3, ([(0, 3, 1)], thing), 1, None, None)
            self.wrong(3, ([(0, 1, 1)], thing), 0, 0, None)
            self.wrong(3, ([(0, 3, 1), (1, 4, 1)], thing), 0, 0, 1)

    def test_no_cord(self):
        bad = [
            (0, 1, 1), (4, 5, 1), (0, 5, 1), (3, 1, 1), (2, 2, 1), (0, 6, 1), (3, 6, 1), (-1, 2, 1), (-3, -1, 1),
            (False, 2, 1), (True, 3, 1), (0, 2, True), (0, 2, 0), (0, 2, -1), [0, 2, 1], (0, 2), (0, 2, 1, 1), (),
            (0, 2, None), (0, "2", 1), (None, 2, 1), ((0, 2), 1), "021", (5, 0, 1), {0: 2}, ((0, 2, 1),),
        ]
        for thing in bad + THINGS:
            for row in ([thing], [(0, 2, 1), thing], [(0, 3, 1), (1, 4, 1), thing, (9, 9, 9)], ((3, 5, 1), thing, thing)):
                at = [repr(cord) for cord in row].index(repr(thing))
                self.wrong(3, (row, []), 0, at, None)
                self.wrong(3, (row, [None]), 0, at, None)
                self.wrong(3, ([], row), 1, at, None)
                self.wrong(3, ([(1, 3, 1), (0, 2, 1)], row), 0, 0, 1)

    def test_neighbours_in_each_ring(self):
        for size in SIZES:
            rim = size + 3
            pairs = [(low, high) for low in range(-1, rim + 1) for high in range(-1, rim + 1)]
            for low, high in pairs:
                if (low, high) not in diagonals(size):
                    self.wrong(size, ([], [(low, high, 1)]), 1, 0, None)
                else:
                    same(self, cords_of(size, standing_by(size, ([], [(low, high, 1)]))), ([], [(low, high, 1)]))

    def test_each_two_cords(self):
        for size in range(1, 5):
            for one, other in product(diagonals(size), repeat=2):
                row = [one + (1,), other + (2,)]
                if one == other or crossing(one, other):
                    self.wrong(size, (row, []), 0, 0, 1)
                    self.wrong(size, ([], tuple(row)), 1, 0, 1)
                else:
                    same(self, cords_of(size, standing_by(size, (row, row))), (sorted(row), sorted(row)))

    def test_the_first_two_by_one_then_by_other(self):
        chance = seeded(205)
        for size in (2, 5, 12):
            for _ in range(60):
                rows = []
                for _ in (0, 1):
                    pairs = [chance.choice(diagonals(size)) for _ in range(chance.randint(0, 6))]
                    rows.append([pair + (chance.randint(1, 9),) for pair in pairs])
                wrong = []
                for half, row in enumerate(rows):
                    for one, other in combinations(range(len(row)), 2):
                        if row[one][:2] == row[other][:2] or crossing(row[one], row[other]):
                            wrong.append((half, one, other))
                if wrong:
                    self.wrong(size, tuple(rows), *min(wrong))
                else:
                    self.assertTrue(whole_throughout(standing_by(size, tuple(rows))))

    def test_behind_no_web(self):
        for size in NO_SIZES:
            for cords in (([], []), None, ([(0, 1, 1)], []), [[], []]):
                for ask in (standing_by, turned_cords):
                    same(self, refusal(self, NoWeb, ask, size, cords).part, "size")


if __name__ == "__main__":
    unittest.main()
