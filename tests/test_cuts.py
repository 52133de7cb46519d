"""[60] The fewest ties to cut, the paper that fewer don't do, and the look at both."""

import unittest
from itertools import combinations

from giveback.cuts import cut_paper, fewest_cuts, shows_cuts
from giveback.errors import TooMany
from giveback.kinds import kinds_of
from giveback.webs import Web
from helping import (THINGS, none_ties, random_web, refusal, row_ties, same, seeded, shape_ties, shows, shuffled,
                     side_by_side, star, tie, waves_ties)


def pairs_of(web):
    """The ties (one, other), rising."""
    return [tied[:2] for tied in web.ties()]


def left_of(web, cuts):
    """The web without these ties."""
    return Web(len(web), [tied for tied in web.ties() if tied[:2] not in cuts])


def is_all(web):
    """Whether each part is of the kind all, by weights that show its kind."""
    kinds = kinds_of(web)
    assert all(shows(web, posts, word, weights) for posts, word, weights in kinds)
    return all(word == "all" for _, word, _ in kinds)


def fewest(web):
    """How many ties have to be cut, all lots of ties gone through by how many."""
    pairs = pairs_of(web)
    many = 0
    while not any(is_all(left_of(web, cuts)) for cuts in combinations(pairs, many)):
        many += 1
    return many


def tied_together(posts, ties):
    """Whether these ties among the posts lead from each to each other."""
    reached = {posts[0]}
    for _ in posts:
        reached |= {high for one, other in ties for low, high in ((one, other), (other, one)) if low in reached}
    return reached == set(posts)


def row_holds(web, row):
    """Whether a row of a paper is as the words of [60] tell, but for which ties it names."""
    ties, posts, weights = row
    left = left_of(web, ties)
    among = [pair for pair in pairs_of(left) if set(pair) <= set(posts)]
    outs = [sum(left.cords(post, other) * weight for other, weight in zip(posts, weights)) for post in posts]
    kinds = [type(row), type(ties), type(posts), type(weights)] == [tuple] * 4
    whole = all(type(number) is int for number in posts + weights) and min(weights) >= 1
    rising = list(posts) == sorted(set(posts)) and posts[0] >= 0 and posts[-1] < len(web)
    return kinds and whole and rising and len(posts) == len(weights) and tied_together(posts, among) and all(
        out >= 2 * weight for out, weight in zip(outs, weights))


def some_webs(chance):
    """Webs of each kind with at most ten ties, of one part and of several."""
    for size, ties in waves_ties() + none_ties():
        if len(ties) <= 10:
            yield shuffled(size, ties, chance)
    for word, size in (("row", 1), ("row", 11), ("end", 6), ("middle", 4), ("three", 2), ("fork", 9), ("arms", 8)):
        yield shuffled(size, shape_ties(word, list(range(size))), chance)
    ring = (4, row_ties([0, 1, 2, 3]) + [tie(0, 3)])
    heavy = (2, [(0, 1, 5, 1)])
    for parts in ([ring, heavy], [heavy] * 5, [heavy, star((1,) * 5), (3, [])], [(12, [])], [ring, ring, (3, [])]):
        yield side_by_side(parts, chance)
    for _ in range(25):
        size = chance.randint(2, 7)
        yield random_web(chance, size, chance.randint(-1, 3), chance.choice((1, 2, 9)))
    pairs = list(combinations(range(5), 2))
    yield Web(5, [pair + (1, 1) for pair in pairs])
    yield Web(12, [(k, k + 1, 9, 9) for k in range(10)])


def ten_or_fewer(chance):
    """These webs, but for those that were drawn with more than ten ties."""
    return [web for web in some_webs(chance) if len(web.ties()) <= 10]


class TestFewestCuts(unittest.TestCase):

    def test_beside_all_lots_of_ties(self):
        many = set()
        webs = ten_or_fewer(seeded(230))
        for web in webs:
            told = fewest_cuts(web)
            self.assertIs(type(told), list)
            same(self, told, sorted(set(told)))
            self.assertTrue(set(told) <= set(pairs_of(web)))
            self.assertTrue(all(type(pair) is tuple for pair in told))
            self.assertTrue(is_all(left_of(web, told)))
            same(self, len(told), fewest(web))
            same(self, fewest_cuts(web=web), told)
            many.add(len(told))
        self.assertTrue({0, 1, 2, 3, 5, 10} <= many)
        self.assertTrue(any(len(web.ties()) == 10 for web in webs))

    def test_with_any_one_tied_again_not_all_comes_back(self):
        for web in ten_or_fewer(seeded(231)):
            told = fewest_cuts(web)
            for pair in told:
                self.assertFalse(is_all(left_of(web, [other for other in told if other != pair])))

    def test_by_hand(self):
        same(self, fewest_cuts(Web(1, [])), [])
        same(self, fewest_cuts(Web(3, row_ties([0, 1, 2]))), [])
        same(self, fewest_cuts(Web(2, [(0, 1, 2, 2)])), [(0, 1)])
        same(self, len(fewest_cuts(Web(5, [(0, k, 1, 1) for k in range(1, 5)]))), 1)
        same(self, len(fewest_cuts(Web(4, row_ties([0, 1, 2, 3]) + [(0, 3, 1, 1)]))), 1)
        self.assertIn(fewest_cuts(Web(3, [(0, 1, 1, 3), (1, 2, 1, 3)])), ([(0, 1)], [(1, 2)]))
        same(self, fewest_cuts(Web(4, [(0, 1, 1, 1), (1, 2, 4, 1), (2, 3, 1, 3)])), [(1, 2)])


class TestCutPaper(unittest.TestCase):

    def test_clause_by_clause(self):
        rows = 0
        for web in ten_or_fewer(seeded(232)):
            many = len(fewest_cuts(web))
            told = cut_paper(web)
            self.assertIs(type(told), list)
            if many == 0:
                same(self, told, [])
                continue
            same(self, [row[0] for row in told], list(combinations(pairs_of(web), many - 1)))
            same(self, told, sorted(told))
            for row in told:
                self.assertTrue(row_holds(web, row))
            same(self, cut_paper(web=web), told)
            rows = max(rows, len(told))
        self.assertGreater(rows, 100)

    def test_by_hand(self):
        same(self, cut_paper(Web(3, row_ties([0, 1, 2]))), [])
        same(self, cut_paper(Web(2, [(0, 1, 2, 2)])), [((), (0, 1), (1, 1))])
        told = cut_paper(Web(3, [(0, 1, 2, 2), (1, 2, 2, 2)]))
        same(self, told, [(((0, 1),), (1, 2), (1, 1)), (((1, 2),), (0, 1), (1, 1))])


class TestShowsCuts(unittest.TestCase):

    def test_the_told_ones(self):
        for web in ten_or_fewer(seeded(233)):
            told, paper = fewest_cuts(web), cut_paper(web)
            for cuts in (told, tuple(told)):
                for thing in (paper, tuple(paper)):
                    same(self, shows_cuts(web, cuts, thing), True)
                    same(self, shows_cuts(thing=thing, told=cuts, web=web), True)

    def test_of_other_hands(self):
        chance = seeded(234)
        others = 0
        for web in ten_or_fewer(chance):
            many = len(fewest_cuts(web))
            paper = cut_paper(web)
            heavier = [(ties, posts, tuple(7 ** 60 * weight for weight in weights)) for ties, posts, weights in paper]
            for cuts in combinations(pairs_of(web), many):
                wanted = is_all(left_of(web, cuts))
                same(self, shows_cuts(web, list(cuts), paper), wanted)
                same(self, shows_cuts(web, cuts, heavier), wanted)
                others += wanted
        self.assertGreater(others, 100)

    def test_posts_that_are_fewer_than_a_part(self):
        # A ring with a post beside it: the ring alone shows it as well as all four.
        web = Web(4, [(0, 1, 1, 1), (0, 2, 1, 1), (1, 2, 1, 1), (2, 3, 1, 1)])
        self.assertIn(fewest_cuts(web), ([(0, 1)], [(0, 2)], [(1, 2)]))
        for cuts in ([(0, 1)], [(0, 2)], [(1, 2)]):
            same(self, shows_cuts(web, cuts, [((), (0, 1, 2), (1, 1, 1))]), True)
            same(self, shows_cuts(web, cuts, [((), (0, 1, 2), (2, 2, 2))]), True)
            same(self, shows_cuts(web, cuts, [((), (0, 1, 2, 3), (2, 2, 2, 1))]), True)
            same(self, shows_cuts(web, cuts, [((), (0, 1, 2), (1, 1, 2))]), False)
            same(self, shows_cuts(web, cuts, [((), (0, 1), (1, 1))]), False)
        same(self, shows_cuts(web, [(2, 3)], [((), (0, 1, 2), (1, 1, 1))]), False)

    def test_posts_that_are_not_tied_together(self):
        web = Web(5, [(0, 1, 2, 2), (2, 3, 2, 2), (3, 4, 1, 1)])
        paper = [(((0, 1),), (2, 3), (1, 1)), (((2, 3),), (0, 1), (1, 1)), (((3, 4),), (0, 1), (1, 1))]
        cuts = [(0, 1), (2, 3)]
        same(self, shows_cuts(web, cuts, paper), True)
        same(self, shows_cuts(web, cuts, paper[:2] + [(((3, 4),), (2, 3), (5, 5))]), True)
        same(self, shows_cuts(web, cuts, paper[:2] + [(((3, 4),), (0, 1, 2, 3), (1, 1, 1, 1))]), False)
        # Tied together by a tie of the row itself alone.
        chain = Web(4, [(0, 1, 2, 2), (1, 2, 1, 1), (2, 3, 2, 2)])
        rows = [(((0, 1),), (2, 3), (1, 1)), (((1, 2),), (0, 1), (1, 1)), (((2, 3),), (0, 1), (1, 1))]
        same(self, shows_cuts(chain, [(0, 1), (2, 3)], rows), True)
        rows[1] = (((1, 2),), (0, 1, 2, 3), (1, 1, 1, 1))
        same(self, shows_cuts(chain, [(0, 1), (2, 3)], rows), False)
        rows[0] = (((0, 1),), (1, 2, 3), (1, 1, 1))
        same(self, shows_cuts(chain, [(0, 1), (2, 3)], rows), False)

    def test_wrong_cuts(self):
        web = Web(6, [(0, 1, 2, 2), (1, 2, 1, 1), (2, 3, 3, 2), (4, 5, 9, 9)])
        paper = cut_paper(web)
        good = [(0, 1), (2, 3), (4, 5)]
        same(self, fewest_cuts(web), good)
        same(self, shows_cuts(web, good, paper), True)
        bad = [
            good[::-1], [(2, 3), (0, 1), (4, 5)], [(0, 1), (4, 5), (2, 3)], good + [(4, 5)], [(0, 1)] + good, good[:2],
            good[1:], [], [(0, 1), (1, 2), (2, 3), (4, 5)], [(0, 1), (1, 2), (4, 5)], [(1, 0), (2, 3), (4, 5)],
            [(0, 1), (2, 3), (3, 4)], [(0, 1), (2, 3), (4, 6)], [[0, 1], (2, 3), (4, 5)], [(False, True), (2, 3), (4, 5)],
            [(0, True), (2, 3), (4, 5)], [(0, 1, 2, 2), (2, 3), (4, 5)], [(0, 1), (2, 3), None], dict.fromkeys(good),
            [(0, 1), (2, 3), (4, 5), (4, 6)], [(0, 1), (2, 3), (4, "5")], [(0, 1), (2, 3), 45], "010",
        ]
        for cuts in bad + THINGS:
            for thing in (paper, cut_paper(Web(6, web.ties()[:3])), [], ()):
                same(self, shows_cuts(web, cuts, thing), False)

    def test_none_cut(self):
        for web in (Web(1, []), Web(5, row_ties([0, 1, 2, 3, 4])), Web(4, [(0, 1, 1, 3)])):
            for cuts in ([], ()):
                for thing in ([], ()):
                    same(self, shows_cuts(web, cuts, thing), True)
                for thing in [thing for thing in THINGS if thing not in ([], ())] + [[((), (0,), (1,))], [((), (), ())]]:
                    same(self, shows_cuts(web, cuts, thing), False)

    def test_wrong_papers(self):
        web = Web(7, [(0, 1, 1, 1), (0, 2, 1, 1), (1, 2, 1, 1), (2, 3, 1, 2), (4, 5, 4, 2)])
        cuts, paper = fewest_cuts(web), cut_paper(web)
        same(self, (len(cuts), len(paper)), (2, 5))
        same(self, shows_cuts(web, cuts, paper), True)
        for at, (ties, posts, weights) in enumerate(paper):
            rows = [
                [ties, posts, weights], (list(ties), posts, weights), (ties, list(posts), weights), (), None, (ties, posts),
                (ties, posts, list(weights)), (ties, posts, weights, 0), (ties, posts[:-1], weights), ((), posts, weights),
                (ties, posts, weights[:-1]), (ties, posts[::-1], weights[::-1]), (ties, posts, weights + (1,)),
                (ties, posts + posts[-1:], weights + weights[-1:]), (ties * 2, posts, weights), (ties, posts[:1], weights[:1]),
                (ties, (), ()), (ties, posts, tuple(-weight for weight in weights)), (ties, posts, (0,) * len(posts)),
                (ties, posts, tuple(map(str, weights))), (ties, posts, (True,) * len(posts)), (ties, posts, None),
                (ties, None, weights), (None, posts, weights), ([], posts, weights), (ties, posts + (7,), weights + (1,)),
                (ties, (-1,) + posts, (1,) + weights), (tuple(tuple(pair[::-1]) for pair in ties), posts, weights),
                (tuple(tuple(map(bool, pair)) for pair in ties), posts, weights), (ties, posts + (6,), weights + (1,)),
                (tuple(map(list, ties)), posts, weights), (ties, {post: 1 for post in posts}, weights),
                (ties, posts, (1000 * max(weights),) + weights[1:]), (ties, tuple(map(bool, posts)), weights),
                (ties, posts, (None,) + weights[1:]), (ties, ("0",) + posts[1:], weights), (ties, ([],) + posts[1:], weights),
            ]
            if posts[0] < 2:
                rows.append((ties, (bool(posts[0]),) + posts[1:], weights))
            if 1 in weights:
                rows.append((ties, posts, tuple(True if weight == 1 else weight for weight in weights)))
            for row in rows:
                same(self, shows_cuts(web, cuts, paper[:at] + [row] + paper[at + 1:]), False)
            same(self, shows_cuts(web, cuts, paper[:at] + paper[at + 1:]), False)
            same(self, shows_cuts(web, cuts, paper[:at] + [paper[at]] + paper[at:]), False)
            for other in range(at):
                swapped = list(paper)
                swapped[at], swapped[other] = paper[other], paper[at]
                same(self, shows_cuts(web, cuts, swapped), False)
                named = list(paper)
                named[at] = (paper[other][0],) + paper[at][1:]
                same(self, shows_cuts(web, cuts, named), False)
        for thing in THINGS + [dict(enumerate(paper)), {row: None for row in paper}, repr(paper), paper[0], [paper]]:
            same(self, shows_cuts(web, cuts, thing), False)


class TestTooMany(unittest.TestCase):

    def test_eleven_ties_and_more(self):
        chance = seeded(235)
        pairs = list(combinations(range(12), 2))
        webs = [Web(12, row_ties(list(range(12))))]
        for many in (11, 12, 20, 66):
            webs.append(Web(12, [pair + (chance.randint(1, 9), 1) for pair in sorted(chance.sample(pairs, many))]))
        for web in webs:
            many = len(web.ties())
            for ask in (fewest_cuts, cut_paper):
                same(self, refusal(self, TooMany, ask, web).many, many)
            for thing in THINGS:
                same(self, refusal(self, TooMany, shows_cuts, web, thing, thing).many, many)
            same(self, refusal(self, TooMany, shows_cuts, web, [], []).many, many)


if __name__ == "__main__":
    unittest.main()
