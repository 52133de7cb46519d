"""[65] A works: what is done to it, and what is refused. [66] What it is asked, as of so many deeds."""

import unittest

from giveback.errors import Full, NoBeats, NoDeed, NoDeeds, NoNumber, NoPost, NoTie, TooGreat
from giveback.far import standing_behind
from giveback.kinds import kinds_of
from giveback.returning import comes_back
from giveback.webs import Web
from giveback.works import Works
from helping import (THINGS, none_ties, nought, random_web, refusal, row_ties, same, seeded, shape_ties, shows, shuffled,
                     side_by_side, slow_back, slow_behind, slow_run, spoiled, tie, waves_ties)

MOST = 10 ** 30
FAR = 10 ** 18


class Slow:
    """A works gone deed by deed and beat by beat, all that ever stood kept."""

    def __init__(self, web):
        self.stood = [(web, nought(web))]
        self.done = []

    def put(self, post, number):
        web, (old, now) = self.stood[-1]
        self.keep(("put", post, number), web, (old, tuple(n + number * (k == post) for k, n in enumerate(now))))

    def bind(self, one, other, there, back):
        web, standing = self.stood[-1]
        self.keep(("bind", one, other, there, back), Web(len(web), web.ties() + [tie(one, other, there, back)]), standing)

    def cut(self, one, other):
        web, standing = self.stood[-1]
        left = [tied for tied in web.ties() if set(tied[:2]) != {one, other}]
        self.keep(("cut", one, other), Web(len(web), left), standing)

    def go(self, beats):
        web, standing = self.stood[-1]
        self.keep(("go", beats), web, slow_behind(web, standing, beats))

    def undo(self):
        self.stood.pop()
        self.done.pop()

    def keep(self, deed, web, standing):
        self.stood.append((web, standing))
        self.done.append(deed)

    def may_go(self, beats):
        """Whether the numbers stay such as a works may hold."""
        web, standing = self.stood[-1]
        return max(abs(n) for row in slow_behind(web, standing, beats) for n in row) <= MOST


def drawn_deed(slow, chance):
    """(word, what is handed in) of a deed that isn't refused, drawn."""
    web, _ = slow.stood[-1]
    size = len(web)
    word = chance.choice(("put", "put", "bind", "bind", "cut", "go", "go"))
    pairs = [(one, other) for one in range(size) for other in range(size) if one != other]
    tied = [pair for pair in pairs if web.cords(*pair)]
    free = [pair for pair in pairs if not web.cords(*pair)]
    if word == "bind" and free and len(web.ties()) < 8:
        return word, (*chance.choice(free), chance.choice((1, 1, 1, 2, 9)), chance.choice((1, 1, 1, 3)))
    if word == "cut" and tied:
        return word, chance.choice(tied)
    beats = chance.randint(-6, 6)
    if word == "go" and slow.may_go(beats):
        return word, (beats,)
    return "put", (chance.randrange(size), chance.choice((0, -1, 1, chance.randint(-9, 9), 10 ** 12)))


class TestDeeds(unittest.TestCase):

    def look_at(self, works, slow):
        """All that is asked, as of now and as of each number of deeds that stand."""
        same(self, (len(works), works.deeds()), (len(slow.done), slow.done))
        for upto in [None] + list(range(len(slow.done) + 1)):
            web, standing = slow.stood[-1 if upto is None else upto]
            self.assertIs(type(works.web(upto=upto)), Web)
            self.assertTrue(works.web(upto=upto) == web)
            same(self, works.standing(upto=upto), standing)
        web, standing = slow.stood[-1]
        self.assertTrue(works.web() == web)
        same(self, works.standing(), standing)

    def test_deed_by_deed_beat_by_beat(self):
        chance = seeded(240)
        words = set()
        for size in range(1, 13):
            for _ in range(4):
                web = random_web(chance, size, -2, 2)
                works, slow = Works(web), Slow(web)
                self.look_at(works, slow)
                for _ in range(14):
                    word, handed = drawn_deed(slow, chance)
                    words.add(word)
                    same(self, getattr(works, word)(*handed), None)
                    getattr(slow, word)(*handed)
                    self.look_at(works, slow)
                self.asked(works, slow)
        same(self, sorted(words), ["bind", "cut", "go", "put"])

    def asked(self, works, slow):
        """Kinds and coming back, as of each number of deeds that stand."""
        for upto, (web, standing) in enumerate(slow.stood):
            kinds = works.kinds(upto=upto)
            same(self, kinds, kinds_of(web))
            self.assertTrue(all(shows(web, posts, word, weights) for posts, word, weights in kinds))
            told = works.comes_back(upto=upto)
            same(self, told, comes_back(web, standing))
            if len(kinds) == 1 or told is None or told <= 130:
                same(self, told, slow_back(web, standing))
        same(self, works.kinds(), works.kinds(upto=len(works)))
        same(self, works.comes_back(), works.comes_back(upto=None))

    def test_by_hand(self):
        works = Works(Web(3, [(0, 1, 1, 1)]))
        same(self, (works.standing(), works.deeds(), len(works)), (((0, 0, 0), (0, 0, 0)), [], 0))
        works.put(0, -2)
        works.bind(2, 1, 3, 4)
        works.put(post=2, number=5)
        works.go(1)
        works.go(0)
        same(self, works.web().ties(), [(0, 1, 1, 1), (1, 2, 4, 3)])
        same(self, works.standing(), ((-2, 0, 5), (0, 15, 0)))
        works.cut(other=1, one=2)
        works.go(beats=-1)
        same(self, works.standing(), ((0, -15, 0), (-2, 0, 5)))
        wanted = [
            ("put", 0, -2), ("bind", 2, 1, 3, 4), ("put", 2, 5), ("go", 1), ("go", 0), ("cut", 2, 1), ("go", -1)]
        same(self, works.deeds(), wanted)
        same(self, works.standing(upto=3), ((0, 0, 0), (-2, 0, 5)))
        same(self, works.web(upto=1).ties(), [(0, 1, 1, 1)])
        same(self, [works.comes_back(upto=upto) for upto in (0, 1, 3, 6, 7)], [1, 10, None, 20, 20])
        same(self, works.kinds(upto=3), kinds_of(Web(3, [(0, 1, 1, 1), (1, 2, 4, 3)])))

    def test_either_post_first(self):
        for one, other in ((0, 2), (2, 0)):
            works = Works(web=Web(3, []))
            works.bind(one=one, other=other, there=5, back=7)
            same(self, (works.web().cords(one, other), works.web().cords(other, one)), (5, 7))
            for low, high in ((0, 2), (2, 0)):
                works.cut(low, high)
                same(self, works.web().ties(), [])
                works.undo()
            same(self, works.deeds(), [("bind", one, other, 5, 7)])

    def test_deeds_of_nought_are_deeds(self):
        works = Works(Web(2, [(0, 1, 2, 2)]))
        works.put(1, 0)
        works.go(0)
        same(self, (works.deeds(), len(works)), ([("put", 1, 0), ("go", 0)], 2))
        works.undo()
        same(self, works.deeds(), [("put", 1, 0)])

    def test_taken_back_again_and_again(self):
        chance = seeded(241)
        for _ in range(12):
            web = random_web(chance, chance.randint(2, 6), -1, 2)
            works, slow = Works(web), Slow(web)
            for _ in range(40):
                if slow.done and chance.random() < 0.45:
                    for _ in range(chance.randint(1, len(slow.done))):
                        same(self, works.undo(), None)
                        slow.undo()
                else:
                    word, handed = drawn_deed(slow, chance)
                    getattr(works, word)(*handed)
                    getattr(slow, word)(*handed)
                self.look_at(works, slow)
            while slow.done:
                works.undo()
                slow.undo()
            self.look_at(works, slow)
            for _ in range(3):
                refusal(self, NoDeed, works.undo)
            self.look_at(works, slow)

    def test_others_hear_nothing(self):
        web = Web(3, [(0, 1, 2, 3)])
        one, other = Works(web), Works(web)
        one.put(0, 3)
        one.cut(0, 1)
        one.bind(1, 2, 1, 1)
        one.go(5)
        same(self, web.ties(), [(0, 1, 2, 3)])
        same(self, (other.web().ties(), other.standing(), other.deeds(), len(other)), ([(0, 1, 2, 3)], nought(web), [], 0))
        other.put(2, 8)
        same(self, (len(one), one.standing(upto=1)), (4, ((0, 0, 0), (3, 0, 0))))
        again = Works(one.web())
        again.cut(1, 2)
        same(self, one.web().ties(), [(1, 2, 1, 1)])

    def test_told_lists_are_the_askers_own(self):
        works = Works(Web(4, [(0, 1, 1, 1)]))
        works.put(0, 3)
        works.go(2)
        before = works.deeds(), works.kinds(), works.web().ties(), works.standing()
        for told in (works.deeds(), works.kinds(), works.kinds(upto=1), works.web().ties(), works.web(upto=0).ties()):
            self.assertIs(type(told), list)
            spoiled(told)
        same(self, (works.deeds(), works.kinds(), works.web().ties(), works.standing()), before)
        same(self, works.deeds(), [("put", 0, 3), ("go", 2)])


class TestNoDeeds(unittest.TestCase):

    def asks(self, works):
        return works.web, works.standing, works.kinds, works.comes_back

    def test_no_such_number(self):
        works = Works(Web(2, []))
        for many in (0, 1, 3):
            while len(works) < many:
                works.put(0, 1)
            bad = [many + 1, -1, -many - 1, 10 ** 999, True, False, "0", [0], (0,), {0: 0}, str(many), (many,)]
            for thing in bad + [thing for thing in THINGS if type(thing) is not int and thing is not None]:
                for ask in self.asks(works):
                    same(self, refusal(self, NoDeeds, ask, upto=thing).asked, thing)
            for ask in self.asks(works):
                for upto in range(many + 1):
                    ask(upto=upto)
                ask(upto=None)

    def test_by_its_name_alone(self):
        works = Works(Web(2, []))
        for ask in self.asks(works):
            with self.assertRaises(TypeError):
                ask(0)

    def test_behind_deeds_taken_back(self):
        works = Works(Web(2, []))
        works.put(0, 1)
        works.put(1, 1)
        works.undo()
        for ask in self.asks(works):
            same(self, refusal(self, NoDeeds, ask, upto=2).asked, 2)


class TestRefused(unittest.TestCase):

    def setUp(self):
        self.works = Works(Web(4, [(0, 1, 2, 3), (2, 3, 1, 1)]))
        self.works.put(0, 5)
        self.works.go(1)
        self.before = self.seen()

    def seen(self):
        works = self.works
        return works.web().ties(), works.standing(), works.kinds(), works.comes_back(), works.deeds(), len(works)

    def refused(self, kind, ask, *handed):
        """The refusal's only field; nothing has changed."""
        error = refusal(self, kind, getattr(self.works, ask), *handed)
        same(self, self.seen(), self.before)
        told, = vars(error).values()
        return told

    def no_posts(self):
        return [4, 5, -1, 10 ** 999] + [thing for thing in THINGS if type(thing) is not int]

    def test_put(self):
        for thing in self.no_posts():
            for number in (1, FAR + 1, None, thing):
                same(self, self.refused(NoPost, "put", thing, number), thing)
        bad = [FAR + 1, -FAR - 1, 10 ** 999, -10 ** 999] + [thing for thing in THINGS if type(thing) is not int]
        for thing in bad:
            for post in range(4):
                same(self, self.refused(NoNumber, "put", post, thing), thing)
        for number in (FAR, -FAR):
            self.works.put(1, number)
            same(self, self.works.standing()[1], (0, 10 + number, 0, 0))
            self.works.undo()

    def test_bind(self):
        for thing in self.no_posts():
            for other in (0, 1, 9, None, thing):
                same(self, self.refused(NoPost, "bind", thing, other, 1, 1), thing)
                same(self, self.refused(NoPost, "bind", thing, other, 0, None), thing)
            for one in range(4):
                same(self, self.refused(NoPost, "bind", one, thing, 1, 1), thing)
                same(self, self.refused(NoPost, "bind", one, thing, thing, thing), thing)
        for one, other in ((0, 1), (1, 0), (2, 3), (3, 2), (0, 0), (3, 3)):
            for there, back in ((1, 1), (9, 9), (2, 3), (0, 0), (None, None)):
                same(self, self.refused(NoTie, "bind", one, other, there, back), (one, other))
        for thing in [0, 10, -1, 10 ** 999] + [thing for thing in THINGS if type(thing) is not int]:
            for one, other in ((0, 2), (2, 0), (3, 1)):
                same(self, self.refused(NoTie, "bind", one, other, thing, 1), (one, other))
                same(self, self.refused(NoTie, "bind", one, other, 9, thing), (one, other))
                same(self, self.refused(NoTie, "bind", one, other, thing, thing), (one, other))

    def test_cut(self):
        for thing in self.no_posts():
            for other in (0, 1, 9, None, thing):
                same(self, self.refused(NoPost, "cut", thing, other), thing)
            for one in range(4):
                same(self, self.refused(NoPost, "cut", one, thing), thing)
        for one in range(4):
            for other in range(4):
                if {one, other} not in ({0, 1}, {2, 3}):
                    same(self, self.refused(NoTie, "cut", one, other), (one, other))
        for one, other in ((0, 1), (3, 2)):
            self.works.cut(one, other)
            self.before = self.seen()
            same(self, self.refused(NoTie, "cut", other, one), (other, one))

    def test_no_beats(self):
        for thing in [FAR + 1, -FAR - 1, 10 ** 999] + [thing for thing in THINGS if type(thing) is not int]:
            same(self, self.refused(NoBeats, "go", thing), thing)

    def test_too_great_ahead_of_full(self):
        web, standing = self.works.web(), self.works.standing()
        for beats in (FAR, -FAR, 100000, -100000):
            wanted = refusal(self, TooGreat, standing_behind, web, standing, beats).beats
            same(self, self.refused(TooGreat, "go", beats), wanted)
            self.assertGreater(wanted, 100)
            less = wanted - 1 if beats > 0 else 1 - wanted
            same(self, self.refused(Full, "go", less), less)
            same(self, self.refused(TooGreat, "go", wanted if beats > 0 else -wanted), wanted)
        full = [beats for beats in range(1, 300) if max(slow_behind(web, standing, beats)[1]) > MOST]
        same(self, self.refused(Full, "go", full[0]), full[0])
        self.works.go(full[0] - 1)
        self.before = self.seen()
        same(self, self.refused(Full, "go", 1), 1)
        same(self, self.refused(NoBeats, "go", True), True)


class TestFull(unittest.TestCase):

    def test_put(self):
        for sign in (1, -1):
            works = filled(MOST)
            works.go(1 - sign)
            same(self, works.standing()[1][11], sign * MOST)
            for number in (1, 2, FAR):
                same(self, refusal(self, Full, works.put, 11, sign * number).beats, 0)
            same(self, refusal(self, NoNumber, works.put, 11, sign * (FAR + 1)).number, sign * (FAR + 1))
            many = len(works)
            for number in (0, -sign, sign, -sign * FAR):
                works.put(11, number)
            for number in (sign * FAR, 0):
                works.put(post=11, number=number)
                same(self, works.standing()[1][11], sign * MOST)
            same(self, len(works), many + 6)
            standing = works.standing()
            same(self, refusal(self, Full, works.put, 11, sign).beats, 0)
            same(self, (works.standing(), len(works)), (standing, many + 6))

    def test_just_the_greatest_is_let_by(self):
        works = filled(MOST)
        for beats in (1, -1, 2, 3, 4, FAR, -FAR, FAR - 1):
            works.go(beats)
            same(self, max(abs(row[11]) for row in works.standing()), MOST)
        for there, number in ((1, MOST), (2, MOST // 2), (5, MOST // 5), (8, MOST // 8)):
            works = filled(number)
            works.bind(11, 0, there, 1)
            works.go(1)
            same(self, works.standing()[1][0], MOST)
            works.cut(0, 11)
            works.go(2)
            same(self, works.standing()[1][0], -MOST)

    def test_one_more_is_not(self):
        for there in (1, 2, 5, 8):
            for beats in (1, -1):
                works = filled(MOST // there + (there > 1))
                if there == 1:
                    # Post 0 owed one a beat ahead, so that it comes to one more than the greatest.
                    works.go(3)
                    works.put(0, -1)
                    works.go(1)
                if beats == -1:
                    # The same with time turned about: what was now is a beat ago.
                    works.go(1)
                    works.put(0, -2 * works.standing()[1][0])
                many, standing = len(works), works.standing()
                works.bind(0, 11, 1, there)
                behind = slow_behind(works.web(), standing, beats)
                self.assertGreater(max(abs(n) for row in behind for n in row), MOST)
                same(self, refusal(self, Full, works.go, beats).beats, beats)
                same(self, (works.standing(), len(works)), (standing, many + 1))

    def test_a_number_of_a_beat_ago(self):
        works = filled(MOST // 2 + 1)
        works.bind(11, 0, 2, 1)
        web, standing = works.web(), works.standing()
        old, now = slow_behind(web, standing, 2)
        self.assertTrue(max(map(abs, old)) > MOST >= max(map(abs, now)))
        for beats in (1, 2):
            same(self, refusal(self, Full, works.go, beats).beats, beats)
        # What is on the way to where the beats end is all the same.
        works.go(3)
        same(self, works.standing(), slow_behind(web, standing, 3))
        for beats in (-1, -2):
            same(self, refusal(self, Full, works.go, beats).beats, beats)
        works.go(-3)
        same(self, works.standing(), standing)
        # Of a put, too: with what it had a beat ago just the greatest, all now may be put to the greatest.
        works = filled(MOST)
        works.go(1)
        works.put(11, FAR)
        same(self, [row[11] for row in works.standing()], [MOST, FAR])

    def test_two_wrong_at_once(self):
        works = filled(MOST)
        for thing in (12, -1, None, True, [0]):
            same(self, refusal(self, NoPost, works.put, thing, 1).post, thing)
        for thing in (FAR + 1, None, True, "1"):
            same(self, refusal(self, NoNumber, works.put, 11, thing).number, thing)
        works.bind(10, 11, 9, 9)
        for thing in (FAR + 1, None, True, "1"):
            same(self, refusal(self, NoBeats, works.go, thing).beats, thing)
        same(self, refusal(self, Full, works.put, 11, 1).beats, 0)
        same(self, refusal(self, Full, works.go, 1).beats, 1)
        wanted = refusal(self, TooGreat, standing_behind, works.web(), works.standing(), FAR).beats
        same(self, refusal(self, TooGreat, works.go, FAR).beats, wanted)


def filled(number):
    """A works of twelve posts without ties of which post 11 has so much and had nought, and all is nought on post 0."""
    works = Works(Web(12, []))
    aims = [number]
    for _ in range(10):
        aims.append(aims[-1] // 9)
    while works.standing()[1][1] < aims[-1]:
        works.put(1, min(FAR, aims[-1] - works.standing()[1][1]))
    for post in range(2, 12):
        works.bind(post - 1, post, 9, 1)
        works.go(1)
        works.cut(post - 1, post)
        works.put(post, aims[11 - post] - works.standing()[1][post])
    assert [row[11] for row in works.standing()] == [0, number] and [row[0] for row in works.standing()] == [0, 0]
    return works


class TestFar(unittest.TestCase):

    def webs(self, chance):
        """Webs of the kinds all and waves, and of both."""
        for word, size in (("row", 5), ("end", 4), ("fork", 6), ("arms", 7), ("middle", 4), ("three", 2), ("row", 1)):
            yield shuffled(size, shape_ties(word, list(range(size))), chance)
        for size, ties in waves_ties()[::5]:
            yield shuffled(size, ties, chance)
        parts = [(3, row_ties([0, 1, 2])), (2, [(0, 1, 2, 2)]), (4, row_ties([0, 1, 2, 3]) + [tie(0, 3)]), (1, [])]
        yield side_by_side(parts, chance)

    def test_beats_and_then_others_as_both_together(self):
        chance = seeded(242)
        for web in self.webs(chance):
            works = Works(web)
            for post in range(len(web)):
                works.put(post, chance.randint(-99, 99))
                works.go(1)
            first = works.standing()
            for _ in range(6):
                one, other = (chance.choice((1, -1)) * chance.choice((3, 10 ** 6, 10 ** 12 + 7)) for _ in range(2))
                works.go(one)
                works.go(other)
                there = works.standing()
                works.undo()
                works.undo()
                same(self, works.standing(), first)
                works.go(one + other)
                same(self, works.standing(), there)
                works.go(-one - other)
                same(self, works.standing(), first)
                works.undo()
                works.undo()

    def test_as_far_as_beats_go_and_back(self):
        chance = seeded(243)
        for web in self.webs(chance):
            works = Works(web)
            works.put(0, 5)
            works.put(len(web) - 1, -3)
            first = works.standing()
            for beats in (FAR, -FAR):
                works.go(beats)
                same(self, works.standing(), standing_behind(web, first, beats))
                works.go(-beats)
                same(self, works.standing(), first)
                for bad in (FAR + 1, -FAR - 1):
                    same(self, refusal(self, NoBeats, works.go, bad).beats, bad)

    def test_of_the_kind_none_until_it_is_too_great(self):
        chance = seeded(244)
        for size, ties in none_ties():
            web = shuffled(size, ties, chance)
            works = Works(web)
            # Nought stays nought, however many beats.
            works.go(FAR)
            works.go(-FAR)
            same(self, works.standing(), nought(web))
            for post in range(size):
                works.put(post, chance.randint(-9, 9))
            works.put(0, 10)
            first = works.standing()
            run = slow_run(web, first, 100)
            beats = next((n for n, rows in enumerate(run) if max(abs(k) for row in rows for k in row) > MOST), 101) - 1
            works.go(beats // 2)
            works.go(beats - beats // 2)
            same(self, works.standing(), run[beats])
            works.go(-beats)
            same(self, works.standing(), first)
            for far in (FAR, -FAR):
                wanted = refusal(self, TooGreat, standing_behind, web, first, far).beats
                same(self, refusal(self, TooGreat, works.go, far).beats, wanted)
            same(self, works.standing(), first)


if __name__ == "__main__":
    unittest.main()
