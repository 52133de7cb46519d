"""[50] Case trees, as they are told, and the parts whose trees aren't."""

import unittest
from math import comb

from giveback.cases import cases_of
from giveback.errors import NoPart, NotAll, TooMany
from giveback.shapes import part_home_beats
from giveback.webs import Web, lots_of
from helping import (SHAPES, THINGS, TOLD, Looked, none_ties, refusal, row_ties, same, seeded, shape_ties, shuffled,
                     side_by_side, slow_run, waves_ties)

# How many lots of debts of a half there are, as many as there are posts, of which each two go together.
LEAVES = {("middle", 4): 105, ("three", 2): 8, ("fork", 4): 50, ("fork", 5): 182, ("row", 1): 1}
LEAVES.update({("row", size): comb(2 * size + 2, size + 1) // (size + 2) for size in range(2, 6)})
LEAVES.update({("end", size): comb(2 * size, size) for size in range(2, 5)})


def readings(web, posts, half):
    """(posts that are read, posts that change then) of each step."""
    lots = lots_of(web, posts)
    for step in range(part_home_beats(web, posts)):
        yield lots[(half + step) % 2], lots[(half + step + 1) % 2]


def rule_broken(web, posts, half, tree):
    """What of the words of [50] a told tree breaks, None where it is such a tree."""
    steps = list(readings(web, posts, half))
    own = {post: tuple(int(k == post) for k in posts) for post in posts}
    seen = [0] * len(tree)
    ways = [(0, 0, 0, own, [], [])]
    while ways:
        number, step, asked, sums, above, known = ways.pop()
        seen[number] += 1
        while step < len(steps) and asked == len(steps[step][0]) * (len(posts) > 1):
            sums = changed(web, steps[step][1], sums, above)
            step, asked, above = step + 1, 0, []
        node = tree[number]
        if step == len(steps):
            if node != ("back",) or sums != own:
                return number, "no end"
            continue
        post = steps[step][0][asked]
        contrary = tuple(-n for n in sums[post])
        if node[0] == "split" and len(node) == 3 and all(type(k) is int and number < k < len(tree) for k in node[1:]):
            ways.append((node[1], step, asked + 1, sums, above + [post], known + [sums[post]]))
            ways.append((node[2], step, asked + 1, sums, above, known + [contrary]))
            continue
        if node[0] not in ("above", "below") or len(node) != 4:
            return number, "no such node"
        _, many, terms, ahead = node
        if not is_made(sums[post] if node[0] == "above" else contrary, many, terms, known):
            return number, "does not follow"
        if type(ahead) is not int or not number < ahead < len(tree):
            return number, "no later node"
        ways.append((ahead, step, asked + 1, sums, above + [post] if node[0] == "above" else above, known))
    return None if seen == [1] * len(tree) else "not each once"


def changed(web, posts, sums, above):
    """The sums behind a step in which these posts change."""
    new = dict(sums)
    for post in posts:
        new[post] = tuple(
            sum(web.cords(one, post) * sums[one][k] for one in above) - own for k, own in enumerate(sums[post]))
    return new


def is_made(total, many, terms, known):
    """Whether so many times the sum is what the terms tell of the known ones."""
    if type(many) is not int or many < 1 or type(terms) is not tuple:
        return False
    if not all(type(term) is tuple and [type(k) for k in term] == [int, int] for term in terms):
        return False
    numbers = [number for number, _ in terms]
    if numbers != sorted(set(numbers)) or not all(0 <= number < len(known) for number in numbers):
        return False
    if not all(times >= 1 for _, times in terms):
        return False
    made = [sum(times * known[number][k] for number, times in terms) for k in range(len(total))]
    return made == [many * n for n in total]


def answers(web, posts, half, debts):
    """Whether it is above, asked by asked, of a half's beginning with just these debts, each owed once."""
    rows = [[0] * len(web), [0] * len(web)]
    for beat, post in debts:
        back = slow_run(web, (tuple(-int(k == post) for k in range(len(web))), (0,) * len(web)), beat)[-1]
        rows = [[low + high for low, high in zip(*both)] for both in zip(rows, back[::-1])]
    run = slow_run(web, tuple(tuple(row) for row in rows), part_home_beats(web, posts))
    return tuple(run[step][1][post] > 0 for step, (read, _) in enumerate(readings(web, posts, half)) for post in read)


class TestCases(unittest.TestCase):

    def look_at(self, web, posts, half, leaves):
        """It is such a tree, of so many leaves."""
        tree = cases_of(web, posts, half)
        self.assertIs(type(tree), list)
        self.assertTrue(all(type(node) is tuple for node in tree))
        self.assertIsNone(rule_broken(web, posts, half, tree))
        same(self, [node[0] for node in tree].count("back"), leaves)
        return tree

    def test_each_shape(self):
        chance = seeded(120)
        for word, size in TOLD:
            for swap in (False, True):
                order = list(range(size))
                chance.shuffle(order)
                web = Web(size, shape_ties(word, order, swap))
                for half in (0, 1):
                    self.look_at(web, list(range(size)), half, LEAVES[word, size])

    def test_as_few_leaves_as_can_be(self):
        chance = seeded(121)
        for word, size in TOLD:
            order = list(range(size))
            chance.shuffle(order)
            web = Web(size, shape_ties(word, order, chance.random() < 0.5))
            posts = tuple(range(size))
            looked = Looked(web)
            for half in (0, 1):
                # Each of these is answered otherwise, and so comes to a leaf of its own.
                full = [debts for debts, _ in looked.sums[posts, half] if len(debts) == size]
                ways = {answers(web, posts, half, debts) for debts in full}
                same(self, len(ways) if size > 1 else 1, LEAVES[word, size])

    def test_amid_other_parts(self):
        chance = seeded(122)
        for word, size in TOLD:
            others = [(3, [(0, 1, 2, 2)]), (2, [(0, 1, 3, 3)]), (2, row_ties([0, 1]))]
            web = side_by_side([(size, shape_ties(word, list(range(size))))] + others, chance)
            found = 0
            for posts in web.parts():
                ties = [tied for tied in web.ties() if tied[0] in posts]
                wanted = sorted(there * back for _, _, there, back in shape_ties(word, list(range(size))))
                if len(posts) == size and sorted(there * back for _, _, there, back in ties) == wanted:
                    for half in (0, 1):
                        tree = self.look_at(web, posts, half, LEAVES[word, size])
                        same(self, cases_of(web=web, posts=tuple(posts), half=half), tree)
                    found += 1
            self.assertGreater(found, 0)

    def test_by_hand(self):
        same(self, cases_of(Web(1, []), [0], 0), [("back",)])
        same(self, cases_of(Web(3, [(0, 2, 1, 1)]), (1,), 1), [("back",)])
        tree = cases_of(Web(2, [(0, 1, 1, 1)]), [0, 1], 0)
        same(self, tree[0][0], "split")
        # Post 0 is read first, then post 1, which has what 0 had above nought less its own.
        for ahead in tree[0][1:]:
            same(self, tree[ahead][0], "split")
        same(self, [node[0] for node in tree].count("split"), 4)

    def test_the_look_of_these_tests_tells_wrong_trees(self):
        web = Web(3, row_ties([0, 1, 2]))
        posts = [0, 1, 2]
        tree = cases_of(web, posts, 0)
        self.assertIsNone(rule_broken(web, posts, 0, tree))
        self.assertIsNotNone(rule_broken(web, posts, 1, tree))
        for at, node in enumerate(tree):
            if node[0] in ("above", "below"):
                other = {"above": "below", "below": "above"}[node[0]]
                for wrong in ((other,) + node[1:], (node[0], node[1] + 1) + node[2:], node[:2] + (node[2][1:], node[3])):
                    self.assertIsNotNone(rule_broken(web, posts, 0, tree[:at] + [wrong] + tree[at + 1:]))

    def test_told_trees_are_new(self):
        web = Web(3, row_ties([0, 1, 2]))
        kept = repr(cases_of(web, [0, 1, 2], 1))
        cases_of(web, [0, 1, 2], 1).clear()
        same(self, repr(cases_of(web, (0, 1, 2), 1)), kept)
        self.assertTrue(web == Web(3, row_ties([0, 1, 2])))


class TestRefusals(unittest.TestCase):

    def test_no_part(self):
        web = Web(9, row_ties([0, 2, 3, 4, 5, 6]) + [(7, 8, 2, 2)])
        for thing in [[0], [2, 0], (0, 2), [True], (7,), [8, 7], {1: 1}] + THINGS:
            for half in (0, 1):
                same(self, refusal(self, NoPart, cases_of, web, thing, half).posts, thing)
        for posts in ((7, 8), [7, 8]):
            same(self, refusal(self, NotAll, cases_of, web, posts, 0).posts, (7, 8))
        for posts in ((0, 2, 3, 4, 5, 6), [0, 2, 3, 4, 5, 6]):
            same(self, refusal(self, TooMany, cases_of, web, posts, 1).many, 200)
        same(self, cases_of(web, [1], 0), [("back",)])

    def test_not_all(self):
        chance = seeded(123)
        for size, ties in waves_ties() + none_ties():
            web = shuffled(size, ties, chance)
            for posts in (list(range(size)), tuple(range(size))):
                same(self, refusal(self, NotAll, cases_of, web, posts, chance.randrange(2)).posts, tuple(range(size)))

    def test_too_many(self):
        chance = seeded(124)
        others = 0
        for word, size in SHAPES:
            if (word, size) not in TOLD:
                web = shuffled(size, shape_ties(word, list(range(size))), chance)
                others += 1
                for half in (0, 1):
                    same(self, refusal(self, TooMany, cases_of, web, list(range(size)), half).many, 200)
        same(self, others, 7 + 8 + 7 + 3)


if __name__ == "__main__":
    unittest.main()
