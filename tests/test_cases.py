"""[50] Case trees, as they are told, and the parts whose trees aren't."""

import unittest
from math import comb

from giveback.cases import cases_of
from giveback.errors import NoPart, NotAll, TooMany
from giveback.shapes import part_home_beats
from giveback.webs import Web
from helping import (SHAPES, THINGS, TOLD, Looked, none_ties, refusal, row_ties, same, seeded, shape_ties, shuffled,
                     side_by_side, slow_run, waves_ties)
from treelook import readings, rule_broken

# How many lots of debts of a half there are, as many as there are posts, of which each two go together.
LEAVES = {("middle", 4): 105, ("three", 2): 8, ("fork", 4): 50, ("fork", 5): 182, ("row", 1): 1}
LEAVES.update({("row", size): comb(2 * size + 2, size + 1) // (size + 2) for size in range(2, 6)})
LEAVES.update({("end", size): comb(2 * size, size) for size in range(2, 5)})


def answers(web, posts, half, debts):
    """Whether it is above, asked by asked, of a half's beginning with just these debts, each owed once."""
    rows = [[0] * len(web), [0] * len(web)]
    for beat, post in debts:
        back = slow_run(web, (tuple(-int(k == post) for k in range(len(web))), (0,) * len(web)), beat)[-1]
        rows = [[low + high for low, high in zip(*both)] for both in zip(rows, back[::-1])]
    run = slow_run(web, tuple(tuple(row) for row in rows), part_home_beats(web, posts))
    return tuple(run[step][1][post] > 0 for step, (read, _) in enumerate(readings(web, posts, half)) for post in read)


class TestCases(unittest.TestCase):

    def look_at(self, web, posts, half, leaves):
        """It is such a tree, of so many leaves."""
        tree = cases_of(web, posts, half)
        self.assertIs(type(tree), list)
        self.assertTrue(all(type(node) is tuple for node in tree))
        self.assertIsNone(rule_broken(web, posts, half, tree))
        same(self, [node[0] for node in tree].count("back"), leaves)
        return tree

    def test_each_shape(self):
        chance = seeded(120)
        for word, size in TOLD:
            for swap in (False, True):
                order = list(range(size))
                chance.shuffle(order)
                web = Web(size, shape_ties(word, order, swap))
                for half in (0, 1):
                    self.look_at(web, list(range(size)), half, LEAVES[word, size])

    def test_as_few_leaves_as_can_be(self):
        chance = seeded(121)
        for word, size in TOLD:
            order = list(range(size))
            chance.shuffle(order)
            web = Web(size, shape_ties(word, order, chance.random() < 0.5))
            posts = tuple(range(size))
            looked = Looked(web)
            for half in (0, 1):
                # Each of these is answered otherwise, and so comes to a leaf of its own.
                full = [debts for debts, _ in looked.sums[posts, half] if len(debts) == size]
                ways = {answers(web, posts, half, debts) for debts in full}
                same(self, len(ways) if size > 1 else 1, LEAVES[word, size])

    def test_amid_other_parts(self):
        chance = seeded(122)
        for word, size in TOLD:
            others = [(3, [(0, 1, 2, 2)]), (2, [(0, 1, 3, 3)]), (2, row_ties([0, 1]))]
            web = side_by_side([(size, shape_ties(word, list(range(size))))] + others, chance)
            found = 0
            for posts in web.parts():
                ties = [tied for tied in web.ties() if tied[0] in posts]
                wanted = sorted(there * back for _, _, there, back in shape_ties(word, list(range(size))))
                if len(posts) == size and sorted(there * back for _, _, there, back in ties) == wanted:
                    for half in (0, 1):
                        tree = self.look_at(web, posts, half, LEAVES[word, size])
                        same(self, cases_of(web=web, posts=tuple(posts), half=half), tree)
                    found += 1
            self.assertGreater(found, 0)

    def test_by_hand(self):
        same(self, cases_of(Web(1, []), [0], 0), [("back",)])
        same(self, cases_of(Web(3, [(0, 2, 1, 1)]), (1,), 1), [("back",)])
        tree = cases_of(Web(2, [(0, 1, 1, 1)]), [0, 1], 0)
        same(self, tree[0][0], "split")
        # Post 0 is read first, then post 1, which has what 0 had above nought less its own.
        for ahead in tree[0][1:]:
            same(self, tree[ahead][0], "split")
        same(self, [node[0] for node in tree].count("split"), 4)

    def test_the_look_of_these_tests_tells_wrong_trees(self):
        web = Web(3, row_ties([0, 1, 2]))
        posts = [0, 1, 2]
        tree = cases_of(web, posts, 0)
        self.assertIsNone(rule_broken(web, posts, 0, tree))
        self.assertIsNotNone(rule_broken(web, posts, 1, tree))
        for at, node in enumerate(tree):
            if node[0] in ("above", "below"):
                other = {"above": "below", "below": "above"}[node[0]]
                for wrong in ((other,) + node[1:], (node[0], node[1] + 1) + node[2:], node[:2] + (node[2][1:], node[3])):
                    self.assertIsNotNone(rule_broken(web, posts, 0, tree[:at] + [wrong] + tree[at + 1:]))

    def test_told_trees_are_new(self):
        web = Web(3, row_ties([0, 1, 2]))
        kept = repr(cases_of(web, [0, 1, 2], 1))
        cases_of(web, [0, 1, 2], 1).clear()
        same(self, repr(cases_of(web, (0, 1, 2), 1)), kept)
        self.assertTrue(web == Web(3, row_ties([0, 1, 2])))


class TestRefusals(unittest.TestCase):

    def test_no_part(self):
        web = Web(9, row_ties([0, 2, 3, 4, 5, 6]) + [(7, 8, 2, 2)])
        for thing in [[0], [2, 0], (0, 2), [True], (7,), [8, 7], {1: 1}] + THINGS:
            for half in (0, 1):
                same(self, refusal(self, NoPart, cases_of, web, thing, half).posts, thing)
        for posts in ((7, 8), [7, 8]):
            same(self, refusal(self, NotAll, cases_of, web, posts, 0).posts, (7, 8))
        for posts in ((0, 2, 3, 4, 5, 6), [0, 2, 3, 4, 5, 6]):
            same(self, refusal(self, TooMany, cases_of, web, posts, 1).many, 200)
        same(self, cases_of(web, [1], 0), [("back",)])

    def test_not_all(self):
        chance = seeded(123)
        for size, ties in waves_ties() + none_ties():
            web = shuffled(size, ties, chance)
            for posts in (list(range(size)), tuple(range(size))):
                same(self, refusal(self, NotAll, cases_of, web, posts, chance.randrange(2)).posts, tuple(range(size)))

    def test_too_many(self):
        chance = seeded(124)
        others = 0
        for word, size in SHAPES:
            if (word, size) not in TOLD:
                web = shuffled(size, shape_ties(word, list(range(size))), chance)
                others += 1
                for half in (0, 1):
                    same(self, refusal(self, TooMany, cases_of, web, list(range(size)), half).many, 200)
        same(self, others, 7 + 8 + 7 + 3)


if __name__ == "__main__":
    unittest.main()
