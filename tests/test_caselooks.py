"""[50] The look at case trees, whoever wrote them."""

import unittest
from unittest import mock

from giveback.caselooks import shows_cases
from giveback.cases import cases_of
from giveback.errors import NoPart, NotAll
from giveback.webs import Web
from helping import (THINGS, TOLD, none_ties, refusal, row_ties, same, seeded, shape_ties, shuffled, side_by_side, tie,
                     waves_ties)
from treelook import behind, led_to, numbered, rule_broken


def told_webs(chance):
    """(web, posts) of each shape whose trees are told, posts numbered anyhow."""
    for word, size in TOLD:
        order = list(range(size))
        chance.shuffle(order)
        yield Web(size, shape_ties(word, order, chance.random() < 0.5)), list(range(size))


def unlimited(web, posts, half):
    """A tree of a part whose trees have too many leaves to be told."""
    with mock.patch("giveback.cases.need_told_cases"):
        return cases_of(web, posts, half)


def often(tree, many):
    """The same tree with all sums and terms taken so many times."""
    made = []
    for node in tree:
        if node[0] in ("above", "below"):
            terms = tuple((number, many * times) for number, times in node[2])
            node = (node[0], many * node[1], terms, node[3])
        made.append(node)
    return made


def pruned(tree, at, leaf=("back",)):
    """The tree with a leaf in place of one node and of all behind it."""
    kept = []
    waiting = [0]
    while waiting:
        number = waiting.pop()
        kept.append(number)
        waiting.extend([] if number == at else behind(tree[number]))
    kept = sorted(kept)
    places = {number: place for place, number in enumerate(kept)}
    found = []
    for number in kept:
        node = tree[number]
        found.append(leaf if number == at else led_to(node, [places[other] for other in behind(node)]))
    return found


def left_out(tree, at):
    """The tree without a node that nothing leads to."""
    nodes = [led_to(node, [number - (number > at) for number in behind(node)]) for node in tree]
    return nodes[:at] + nodes[at + 1:]


def spoilt(node, number, count):
    """Nodes that are like this one, but for one thing that can't be right in a tree of so many nodes."""
    word = node[0]
    found = [list(node), (), node + (None,), node[:-1], (None,) + node[1:], ("", *node[1:]), (node,), None, "back", word]
    found += [("BACK",), ["back"], ("back", None), ("back", ()), 0, {}, {0: "back"}]
    wrong_numbers = [number, number - 1, 0, -1, count, count + 1, True, False, None, "1", (number + 1,), 10 ** 999]
    if word == "back":
        return [bad for bad in found if bad != node] + [("split", number, number), ("above", 1, (), count)]
    if word == "split":
        _, yes, no = node
        found += [("split", bad, no) for bad in wrong_numbers] + [("split", yes, bad) for bad in wrong_numbers]
        found += [("split", yes, yes), ("split", no, no), ("split", no), ("split", (yes, no))]
        found += [("split", no, yes), ("above", 1, ((0, 1),), yes), ("back",), ("Split", yes, no)]
        return found
    _, many, terms, ahead = node
    found += [(word, bad, terms, ahead) for bad in (0, -1, -many, many + 1, True, None, str(many), (many,), 10 ** 999)]
    found += [(word, many, bad, ahead) for bad in (list(terms), (), None, dict(terms), terms + (None,), terms[1:])]
    found += [(word, many, terms, bad) for bad in wrong_numbers]
    # Nought times the sum is nothing, and so would follow of all.
    found += [(word, 0, (), ahead), (word, 1, (), ahead), (word, -many, (), ahead)]
    known = {one for one, _ in terms}
    found += [(word, many, tuple(sorted(terms + ((one, times),))), ahead)
              for one in range(9) if one not in known for times in (0, 1, -1)]
    for at, (one, times) in enumerate(terms):
        bads = [[one, times], (one, times, 1), (one,), (one, times + 1), (one, 0), (one, -times), (one, True), (one, None)]
        bads += [(-1, times), (99, times), (None, times), (one, str(times)), (times,), None]
        bads += [(bool(one), times)] if one < 2 else []
        found += [(word, many, terms[:at] + (bad,) + terms[at + 1:], ahead) for bad in bads if bad != (one, times)]
        found.append((word, many, terms[:at] + terms[at:at + 1] + terms[at:], ahead))
    if len(terms) > 1:
        found.append((word, many, terms[::-1], ahead))
    other = {"above": "below", "below": "above"}[word]
    return found + [(other, many, terms, ahead), ("back",), ("split", ahead, ahead)]


class TestShows(unittest.TestCase):

    def test_each_told_tree(self):
        chance = seeded(210)
        unlike = 0
        for web, posts in told_webs(chance):
            trees = [cases_of(web, posts, half) for half in (0, 1)]
            for half in (0, 1):
                for tree in (trees[half], tuple(trees[half])):
                    same(self, shows_cases(web, posts, half, tree), True)
                    same(self, shows_cases(thing=tree, half=half, posts=tuple(posts), web=web), True)
                same(self, shows_cases(web, posts, half, trees[1 - half]), is_so(web, posts, half, trees[1 - half]))
                unlike += not is_so(web, posts, half, trees[1 - half])
        self.assertGreater(unlike, 10)

    def test_amid_other_parts(self):
        chance = seeded(211)
        for word, size in (("row", 4), ("end", 3), ("fork", 4), ("middle", 4), ("three", 2), ("row", 1)):
            ties = shape_ties(word, list(range(size)))
            web = side_by_side([(size, ties), (3, [tie(0, 1, 2, 2)]), (5, row_ties([0, 1, 2, 3, 4]))], chance)
            looked = 0
            for posts in web.parts():
                if all(posts != [one, other] for one, other, there, back in web.ties() if there * back == 4):
                    tree = cases_of(web, posts, 0)
                    same(self, shows_cases(web, posts, 0, tree), True)
                    looked += 1
                    for others in web.parts():
                        if len(others) not in (len(posts), 2):
                            same(self, shows_cases(web, others, 0, tree), False)
            self.assertGreaterEqual(looked, 3)

    def test_another_parts_tree(self):
        chance = seeded(212)
        webs = [(web, posts) for web, posts in told_webs(chance) if len(posts) < 5]
        for web, posts in webs:
            for other, others in webs:
                tree = cases_of(other, others, 0)
                same(self, shows_cases(web, posts, 0, tree), is_so(web, posts, 0, tree))

    def test_numbered_otherwise_and_many_times(self):
        chance = seeded(213)
        for web, posts in told_webs(chance):
            tree = cases_of(web, posts, 1)
            for many in (1, 2, 10 ** 30, 7 * 10 ** 40):
                other = numbered(often(tree, many), chance)
                self.assertTrue(is_so(web, posts, 1, other))
                same(self, shows_cases(web, posts, 1, other), True)

    def test_by_hand(self):
        for half in (0, 1):
            for tree in ([("back",)], (("back",),)):
                same(self, shows_cases(Web(1, []), [0], half, tree), True)
            for tree in ([("split", 1, 2), ("back",), ("back",)], [("above", 1, (), 1), ("back",)], [("back",)] * 2):
                same(self, shows_cases(Web(1, []), [0], half, tree), False)
        pair = Web(2, [(0, 1, 1, 1)])
        same(self, shows_cases(pair, [0, 1], 0, HAND), True)
        # Half 1 is the like with posts exchanged, and so has the same tree; another part hasn't.
        same(self, shows_cases(pair, [0, 1], 1, HAND), True)
        for other in (Web(2, [(0, 1, 1, 2)]), Web(2, [(0, 1, 2, 1)]), Web(2, [(0, 1, 1, 3)])):
            same(self, shows_cases(other, [0, 1], 0, HAND), False)

    def test_of_parts_of_which_none_is_told(self):
        chance = seeded(214)
        for word, size, half in (("row", 6, 0), ("end", 5, 1), ("fork", 6, 0)):
            web = shuffled(size, shape_ties(word, list(range(size)), half == 1), chance)
            posts = list(range(size))
            tree = unlimited(web, posts, half)
            self.assertIsNone(rule_broken(web, posts, half, tree))
            self.assertGreater([node[0] for node in tree].count("back"), 200)
            same(self, shows_cases(web, posts, half, tree), True)
            same(self, shows_cases(web, posts, 1 - half, tree), False)
            at = next(number for number, node in enumerate(tree) if node[0] == "above")
            wrong = ("below",) + tree[at][1:]
            same(self, shows_cases(web, posts, half, tree[:at] + [wrong] + tree[at + 1:]), False)


def flat(nested):
    """The nodes of a tree whose nodes hold those behind them."""
    nodes = []
    waiting = [nested]
    while waiting:
        node = waiting.pop(0)
        later = len(nodes) + len(waiting) + 1
        if node[0] == "split":
            nodes.append(("split", later, later + 1))
            waiting.extend(node[1:])
        elif node[0] == "back":
            nodes.append(node)
        else:
            nodes.append(node[:3] + (later,))
            waiting.append(node[3])
    return nodes


def follows(*words):
    """What follows of the known sums: each word + or - with the numbers of those that the sum, or its contrary, is."""
    nested = ("back",)
    for word in words[::-1]:
        terms = tuple((int(number), 1) for number in word[1:])
        nested = ("above" if word[0] == "+" else "below", 1, terms, nested)
    return nested


# The tree of half 0 of two posts in a row, a that has and b that had, written out: first it is asked whether a is above,
# then, where it is, whether a - b is, else whether - b is.
HAND = flat(("split", (
    "split", (
        # Now it is asked whether - b is above.
        "split", follows("-0", "-2", "+0", "+02", "+2", "-0", "-2"), follows("-1", "+2", "+0", "+1", "-2", "-1", "+2"),
    ), follows("-0", "+1", "+01", "+0", "-1", "-0", "+1", "+01"),
), (
    "split", follows("+01", "+0", "-1", "-0", "+1", "+01", "+0", "-1"),
    follows("+0", "+01", "+1", "-0", "-1", "+0", "+01", "+1"),
)))


def is_so(web, posts, half, tree):
    """Whether a tree, told of whatever part and half, shows this one, by the second look."""
    if len(posts) == 1 or len(tree) == 1:
        return len(posts) == 1 and tree == [("back",)]
    try:
        return rule_broken(web, posts, half, tree) is None
    except IndexError:
        # More posts than there were numbers of in the known sums.
        return False


class TestSpoilt(unittest.TestCase):

    def test_one_thing_otherwise_at_any_place(self):
        chance = seeded(215)
        for web, posts in told_webs(chance):
            half = chance.randrange(2)
            tree = cases_of(web, posts, half)
            # Of great trees a few places, as each of them is looked at anew.
            many = min(len(tree), 100 if len(tree) < 100 else 10 if len(tree) < 1000 else 2)
            places = sorted(chance.sample(range(len(tree)), many))
            for at in places:
                bads = spoilt(tree[at], at, len(tree))
                for bad in bads if len(tree) < 1000 else chance.sample(bads, min(20, len(bads))):
                    wrong = tree[:at] + [bad] + tree[at + 1:]
                    same(self, shows_cases(web, posts, half, wrong), False)
            same(self, shows_cases(web, posts, half, tree), True)

    def test_back_too_early_and_too_late(self):
        chance = seeded(216)
        for web, posts in told_webs(chance):
            if len(posts) > 1:
                tree = cases_of(web, posts, 0)
                for at in chance.sample(range(len(tree)), min(40, len(tree)) if len(tree) < 1000 else 10):
                    if tree[at] != ("back",):
                        same(self, shows_cases(web, posts, 0, pruned(tree, at)), False)
                    else:
                        size = len(tree)
                        same(self, shows_cases(web, posts, 0, pruned(tree, at)), True)
                        for late in (("split", size, size + 1), ("above", 1, ((0, 1),), size), ("below", 1, (), size)):
                            more = [("back",)] * (1 + (late[0] == "split"))
                            same(self, shows_cases(web, posts, 0, pruned(tree, at, late) + more), False)

    def test_terms_of_the_same_number(self):
        web, posts = Web(3, row_ties([0, 1, 2])), [0, 1, 2]
        tree = often(cases_of(web, posts, 0), 2)
        for at, node in enumerate(tree):
            if node[0] in ("above", "below"):
                (one, times), *rest = node[2]
                twice = ((one, times - 1), (one, 1), *rest)
                wrong = tree[:at] + [node[:2] + (twice, node[3])] + tree[at + 1:]
                same(self, shows_cases(web, posts, 0, wrong), False)

    def test_a_split_of_what_follows(self):
        # In the one of its ways nothing is but nought, and there the posts' sums aren't what they were.
        for web, posts in told_webs(seeded(218)):
            tree = cases_of(web, posts, 0)
            for at in [at for at, node in enumerate(tree) if node[0] in ("above", "below")][:300]:
                if tree[tree[at][3]] == ("back",):
                    leaf, size = tree[at][3], len(tree)
                    for node in (("split", leaf, size), ("split", size, leaf)):
                        wrong = tree[:at] + [node] + tree[at + 1:] + [("back",)]
                        same(self, shows_cases(web, posts, 0, wrong), False)

    def test_another_word_where_the_tree_ends_too_early(self):
        web, posts = Web(3, row_ties([0, 1, 2])), [0, 1, 2]
        tree = cases_of(web, posts, 0)
        for at, node in enumerate(tree):
            if node[0] in ("above", "below"):
                for leaf in (("over", *node[1:]), (None, 1, (), 1), ("over", node[1], node[2], 0)):
                    same(self, shows_cases(web, posts, 0, pruned(tree, at, leaf)), False)

    def test_nodes_that_lead_round(self):
        web, posts = Web(3, row_ties([0, 1, 2])), [0, 1, 2]
        tree = cases_of(web, posts, 0)
        size = len(tree)
        for more in ([size], [size + 1, size], [size + 1, size + 2, size]):
            rounds = [("above", 1, ((0, 1),), number) for number in more]
            same(self, shows_cases(web, posts, 0, tree + rounds), False)

    def test_nodes_of_two_and_of_none(self):
        web, posts = Web(3, row_ties([0, 1, 2])), [0, 1, 2]
        tree = cases_of(web, posts, 0)
        for more in ([("back",)], [("back",)] * 2, [tree[-1]] * 3):
            same(self, shows_cases(web, posts, 0, tree + more), False)
        leaves = [number for number, node in enumerate(tree) if node == ("back",)]
        for one in leaves[:5]:
            before = next(number for number, node in enumerate(tree) if one in behind(node))
            for other in [leaf for leaf in leaves if leaf > before and leaf != one][:5]:
                # A way now leads to another way's leaf, and its own leaf is next of none, or is left out.
                crossed = tree[:before] + [tree[before][:3] + (other,)] + tree[before + 1:]
                same(self, shows_cases(web, posts, 0, crossed), False)
                same(self, shows_cases(web, posts, 0, left_out(crossed, one)), False)

    def test_things_of_any_kind(self):
        webs = [(Web(1, []), [0]), (Web(2, [(0, 1, 1, 1)]), [0, 1]), (Web(4, row_ties([0, 1, 2, 3])), [0, 1, 2, 3])]
        for web, posts in webs:
            for thing in THINGS + [{0: ("back",)}, "back", ("back",), [["back"]], [("back", 0)], [("back",), ("back",)]]:
                for half in (0, 1):
                    same(self, shows_cases(web, posts, half, thing), False)

    def test_a_tree_of_no_node(self):
        for thing in ([], ()):
            same(self, shows_cases(Web(1, []), [0], 0, thing), False)
            same(self, shows_cases(Web(2, [(0, 1, 1, 1)]), [0, 1], 1, thing), False)

    def test_what_lies_deep(self):
        deep = ()
        for _ in range(20000):
            deep = (deep,)
        for thing in (deep, [deep], [("split", deep, deep)], [("above", 1, deep, 1), ("back",)], [(deep,)]):
            same(self, shows_cases(Web(2, [(0, 1, 1, 1)]), [0, 1], 0, thing), False)


class TestRefusals(unittest.TestCase):

    def test_no_part_ahead_of_not_all(self):
        web = Web(9, row_ties([0, 2, 3, 4, 5, 6]) + [(7, 8, 2, 2)])
        for thing in [[0], [2, 0], (0, 2), [True], (7,), [8, 7], {1: 1}] + THINGS:
            if repr(thing) != "[1]":
                same(self, refusal(self, NoPart, shows_cases, web, thing, 0, [("back",)]).posts, thing)
                same(self, refusal(self, NoPart, shows_cases, web, thing, 1, thing).posts, thing)
        for posts in ((7, 8), [7, 8]):
            for thing in ([("back",)], None, []):
                same(self, refusal(self, NotAll, shows_cases, web, posts, 1, thing).posts, (7, 8))

    def test_not_all(self):
        chance = seeded(217)
        for size, ties in waves_ties() + none_ties():
            web = shuffled(size, ties, chance)
            for posts in (list(range(size)), tuple(range(size))):
                error = refusal(self, NotAll, shows_cases, web, posts, chance.randrange(2), [("back",)])
                same(self, error.posts, tuple(range(size)))


if __name__ == "__main__":
    unittest.main()
