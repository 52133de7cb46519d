"""[12] What is a standing of a web, and what isn't."""

import unittest

from giveback.errors import NoStanding
from giveback.webs import Web, need_standing
from helping import THINGS, refusal, same

GREAT = 10 ** 30


class TestStandings(unittest.TestCase):

    def test_standings(self):
        self.assertIsNone(need_standing(Web(1, []), ((0,), (0,))))
        self.assertIsNone(need_standing(Web(2, []), ((GREAT, -GREAT), (-GREAT, GREAT))))
        self.assertIsNone(need_standing(web=Web(12, []), standing=((1,) * 12, (-1,) * 12)))

    def test_no_standing(self):
        good = (1, 2)
        bad = [
            [good, good], ([1, 2], good), (good, [1, 2]), ([1, 2], [1, 2]), (good,), (good, good, good), (), good,
            ((1,), good), (good, (1,)), ((1, 2, 3), good), (good, (1, 2, 3)), ((), ()), (good, ()), (good, None),
            ("ab", "ab"), (good, "ab"), (good, {0: 1, 1: 2}), (good, 12), {0: good, 1: good}, "", "ab", None,
            (good, good, ()), (None, None), ((good, good), (good,)), (good, True),
        ]
        for thing in bad + THINGS:
            same(self, refusal(self, NoStanding, need_standing, Web(2, []), thing).part, "standing")

    def test_no_numbers(self):
        bad = [True, False, "1", "", None, GREAT + 1, -GREAT - 1, 10 ** 999, -10 ** 999, [1], (1,), {}, (), 1.0]
        for thing in bad:
            for place in range(4):
                numbers = [0, -1, 2, GREAT]
                numbers[place] = thing
                standing = (tuple(numbers[:2]), tuple(numbers[2:]))
                same(self, refusal(self, NoStanding, need_standing, Web(2, []), standing).part, "numbers")

    def test_standing_ahead_of_numbers(self):
        both = [((None,), (1, 2)), ((GREAT + 1, 0), (1,)), ((True, True), [0, 0]), ((None, None), (0, 0), (0, 0))]
        for standing in both:
            same(self, refusal(self, NoStanding, need_standing, Web(2, []), standing).part, "standing")


if __name__ == "__main__":
    unittest.main()
