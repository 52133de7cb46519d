"""[10] Webs: posts, ties, cords; what is no web and no post. [2] What is kept is a copy."""

import unittest

from giveback.errors import NoPost, NoWeb
from giveback.webs import Web
from helping import THINGS, random_web, refusal, same, seeded


class TestWebs(unittest.TestCase):

    def test_the_smallest_and_the_greatest(self):
        for size in range(1, 13):
            web = Web(size, [])
            same(self, web.ties(), [])
            same(self, len(web), size)
        pairs = [(one, other) for one in range(12) for other in range(one + 1, 12)]
        ties = [(one, other, 1 + (one + other) % 9, 1 + one * other % 9) for one, other in pairs]
        same(self, Web(12, ties).ties(), ties)
        same(self, Web(12, ties[::-1]).ties(), ties)

    def test_ties_are_told_rising_in_whatever_order_they_came(self):
        chance = seeded(1)
        for _ in range(200):
            web = random_web(chance, chance.randint(1, 12))
            ties = web.ties()
            same(self, ties, sorted(ties))
            mixed = list(ties)
            chance.shuffle(mixed)
            same(self, Web(len(web), mixed).ties(), ties)
            same(self, Web(len(web), tuple(mixed)).ties(), ties)
            self.assertTrue(Web(len(web), mixed) == web)

    def test_cords_from_either_side(self):
        web = Web(4, [(1, 3, 2, 9), (0, 1, 1, 5)])
        same(self, [[web.cords(one, other) for other in range(4)] for one in range(4)],
             [[0, 1, 0, 0], [5, 0, 0, 2], [0, 0, 0, 0], [0, 9, 0, 0]])

    def test_equal_webs(self):
        web = Web(3, [(0, 1, 1, 2), (1, 2, 3, 4)])
        self.assertIs(web == Web(3, ((1, 2, 3, 4), (0, 1, 1, 2))), True)
        self.assertIs(web != Web(3, ((1, 2, 3, 4), (0, 1, 1, 2))), False)
        self.assertIs(web == web, True)
        others = [
            Web(3, [(0, 1, 1, 2)]), Web(3, [(0, 1, 1, 2), (0, 2, 3, 4)]), Web(3, [(0, 1, 1, 2), (1, 2, 3, 5)]),
            Web(3, [(0, 1, 2, 1), (1, 2, 3, 4)]), Web(4, [(0, 1, 1, 2), (1, 2, 3, 4)]), Web(3, []),
        ]
        for other in others:
            self.assertIs(web == other, False)
            self.assertIs(other == web, False)
            self.assertIs(web != other, True)
        self.assertIs(Web(2, []) == Web(3, []), False)

    def test_a_web_beside_things_that_are_no_web(self):
        web = Web(1, [])
        for thing in THINGS + [web.ties(), 1, (1, []), web.parts(), Web]:
            self.assertIs(web == thing, False)
            self.assertIs(thing == web, False)
            self.assertIs(web != thing, True)

    def test_no_size(self):
        for size in (0, 13, -1, -12, 10 ** 999, True, False, "3", "", None, [3], (3,), {}, {3: 3}):
            for ties in ([], None, [(0, 1, 1, 0)], [(0, 1, 1, 1), (0, 1, 1, 1)]):
                same(self, refusal(self, NoWeb, Web, size, ties).part, "size")

    def test_no_list_of_ties(self):
        for ties in (None, True, 0, "", "ab", {}, {(0, 1, 1, 1): 1}, {"a": 1}):
            same(self, refusal(self, NoWeb, Web, 3, ties).part, "ties")

    def test_no_ties(self):
        good = (0, 1, 1, 1)
        bad = [
            [0, 1, 1, 1], (), (0,), (0, 1, 1), (0, 1, 1, 1, 1), (0, 0, 1, 1), (1, 0, 1, 1), (2, 1, 1, 1), (1, 3, 1, 1),
            (3, 4, 1, 1), (-1, 1, 1, 1), (-2, -1, 1, 1), (0, 2, 0, 1), (0, 2, 1, 0), (0, 2, 10, 1), (0, 2, 1, 10),
            (0, 2, -1, 1), (0, 2, 1, -1), (True, 2, 1, 1), (False, 2, 1, 1), (0, True, 1, 1), (0, 2, True, 1),
            (0, 2, 1, True), ("0", 2, 1, 1), (0, None, 1, 1), (0, 2, [1], 1), (0, 2, 1, {}), None, "0121", 5, {},
            (0, 2, 10 ** 999, 1), (0, 10 ** 999, 1, 1), (0, 1, 1, 1), (0, 1, 2, 1), ((0, 1, 1, 1),),
        ]
        for thing in bad + [thing for thing in THINGS]:
            for ties in ([good, thing], (good, thing), [thing, good]):
                same(self, refusal(self, NoWeb, Web, 3, ties).part, "ties")

    def test_edges_of_ties_that_are_told(self):
        same(self, Web(3, [(1, 2, 9, 1), (0, 2, 1, 9)]).ties(), [(0, 2, 1, 9), (1, 2, 9, 1)])

    def test_no_post(self):
        web = Web(2, [(0, 1, 1, 2)])
        bad = [thing for thing in THINGS if repr(thing) not in ("0", "1")] + [2, -1, -2]
        for thing in bad:
            for call in (lambda one: web.cords(one, 0), lambda one: web.cords(0, one), lambda one: web.cords(one, one),
                         lambda one: web.cords(one, "second"), lambda one: web.cords(one=one, other=[3])):
                same(self, refusal(self, NoPost, call, thing).post, thing)
        same(self, refusal(self, NoPost, web.cords, 2, True).post, 2)
        same(self, refusal(self, NoPost, web.cords, True, 2).post, True)

    def test_what_is_kept_is_a_copy_and_what_is_told_the_askers_own(self):
        ties = [(0, 1, 1, 2), (1, 2, 3, 4)]
        web = Web(size=4, ties=ties)
        ties.append((2, 3, 1, 1))
        ties[0] = (0, 3, 1, 1)
        for told in (web.ties(), web.parts()):
            told.clear()
        for part in web.parts():
            part.append(3)
        same(self, web.ties(), [(0, 1, 1, 2), (1, 2, 3, 4)])
        same(self, web.parts(), [[0, 1, 2], [3]])
        same(self, web.cords(one=1, other=0), 2)
        self.assertIsNot(web.ties(), web.ties())
        self.assertIsNot(web.parts()[0], web.parts()[0])


if __name__ == "__main__":
    unittest.main()
