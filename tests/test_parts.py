"""[11] Parts and lots."""

import unittest

from giveback.errors import NoPart
from giveback.webs import Web, lots_of
from helping import THINGS, random_web, refusal, row_ties, same, seeded, shuffled, star, tie


def joined(web, posts):
    """All that is reached from the first of these posts, by ties, over and over."""
    reached = {posts[0]}
    for _ in range(len(web)):
        for one, other, _, _ in web.ties():
            if one in reached or other in reached:
                reached |= {one, other}
    return sorted(reached)


class TestParts(unittest.TestCase):

    def test_parts_by_hand(self):
        same(self, Web(1, []).parts(), [[0]])
        same(self, Web(3, []).parts(), [[0], [1], [2]])
        same(self, Web(6, [(1, 4, 1, 1), (0, 5, 2, 2), (3, 5, 1, 1)]).parts(), [[0, 3, 5], [1, 4], [2]])
        same(self, Web(12, row_ties([11, 0, 10, 1, 9, 2, 8, 3, 7, 4, 6, 5])).parts(), [list(range(12))])

    def test_parts_are_what_ties_join(self):
        chance = seeded(2)
        for _ in range(300):
            web = random_web(chance, chance.randint(1, 12))
            parts = web.parts()
            same(self, sorted(post for part in parts for post in part), list(range(len(web))))
            same(self, parts, sorted(parts))
            for part in parts:
                same(self, part, joined(web, part))


class TestLots(unittest.TestCase):

    def test_one_post(self):
        same(self, lots_of(Web(1, []), [0]), ([0], []))
        same(self, lots_of(Web(3, [(0, 2, 1, 1)]), (1,)), ([1], []))

    def test_rings(self):
        for size in range(3, 13):
            web = Web(size, row_ties(list(range(size))) + [tie(0, size - 1, 3, 7)])
            wanted = None if size % 2 else (list(range(0, size, 2)), list(range(1, size, 2)))
            same(self, lots_of(web, list(range(size))), wanted)
            same(self, lots_of(web, tuple(range(size))), wanted)

    def test_trees(self):
        web = Web(8, [(1, 7, 1, 1), (3, 7, 2, 2), (1, 5, 1, 9), (5, 6, 1, 1)])
        same(self, lots_of(web, [1, 3, 5, 6, 7]), ([1, 3, 6], [5, 7]))
        same(self, lots_of(web, [0]), ([0], []))
        same(self, lots_of(web, posts=(2,)), ([2], []))
        size, ties = star((1, 1, 1, 1))
        same(self, lots_of(Web(size, ties), [0, 1, 2, 3, 4]), ([0], [1, 2, 3, 4]))

    def test_a_ring_behind_a_row_has_no_lots(self):
        web = Web(6, [(0, 1, 1, 1), (1, 2, 1, 1), (2, 3, 1, 1), (3, 4, 1, 1), (4, 5, 1, 1), (3, 5, 1, 1)])
        same(self, lots_of(web, [0, 1, 2, 3, 4, 5]), None)

    def test_each_tie_joins_both_lots(self):
        chance = seeded(3)
        with_lots = without = 0
        for _ in range(300):
            size = chance.randint(2, 12)
            web = shuffled(size, random_web(chance, size, 0).ties(), chance)
            for part in web.parts():
                lots = lots_of(web=web, posts=part)
                own = [tied for tied in web.ties() if tied[0] in part]
                if lots is None:
                    without += 1
                    for mask in range(2 ** len(part)):
                        side = {post: mask >> k & 1 for k, post in enumerate(part)}
                        self.assertTrue(any(side[tied[0]] == side[tied[1]] for tied in own))
                else:
                    with_lots += 1
                    first, second = lots
                    same(self, sorted(first + second), part)
                    same(self, [sorted(first), sorted(second)], [first, second])
                    self.assertIn(part[0], first)
                    self.assertTrue(all((tied[0] in first) != (tied[1] in first) for tied in own))
        self.assertGreater(min(with_lots, without), 20)

    def test_told_lots_are_new(self):
        web = Web(2, [(0, 1, 1, 1)])
        posts = [0, 1]
        first, second = lots_of(web, posts)
        first.append(9)
        second.clear()
        same(self, posts, [0, 1])
        same(self, lots_of(web, posts), ([0], [1]))
        self.assertIs(type(lots_of(web, posts)), tuple)
        alone = [0]
        lots_of(Web(1, []), alone)[0].append(1)
        same(self, alone, [0])

    def test_no_part(self):
        web = Web(5, [(0, 1, 1, 1), (1, 2, 1, 1), (3, 4, 1, 1)])
        bad = [
            [0, 1], [0], [1, 2], [0, 1, 2, 3, 4], [2, 1, 0], [0, 2, 1], [0, 1, 1, 2], [3, 4, 4], [3, 3, 4], [4, 3],
            (0, 1), (4, 3), [3.0, 4.0], [False, True, 2], [False, 1, 2], (0, True, 2), [3, 4, 5], [-2, -1], [5], [-1],
            [3, 4, None], ["3", "4"], [[3, 4]], [(3, 4)], [3, [4]], "34", {3: 0, 4: 0}, {"posts": [3, 4]}, [10 ** 999],
            [0, 1, 2, 0, 1, 2], ([3], [4]),
        ]
        for thing in bad + THINGS:
            same(self, refusal(self, NoPart, lots_of, web, thing).posts, thing)

    def test_truths_are_no_posts(self):
        same(self, refusal(self, NoPart, lots_of, Web(1, []), [False]).posts, [False])
        same(self, refusal(self, NoPart, lots_of, Web(2, [(0, 1, 1, 1)]), (0, True)).posts, (0, True))


if __name__ == "__main__":
    unittest.main()
