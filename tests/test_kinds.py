"""[20] Kinds of parts and the weights that show them."""

import unittest

from giveback.errors import NoPart
from giveback.kinds import is_kind, kinds_of
from giveback.webs import Web
from helping import (THINGS, none_ties, random_web, refusal, row_ties, same, seeded, shape_webs, shows, shuffled,
                     side_by_side, waves_ties)

WORDS = ("all", "waves", "none")


class TestKinds(unittest.TestCase):

    def look_at(self, web, words):
        """The told kinds are of these words, and their weights add up."""
        kinds = kinds_of(web)
        self.assertIs(type(kinds), list)
        same(self, [list(posts) for posts, _, _ in kinds], web.parts())
        for told in kinds:
            self.assertIs(type(told), tuple)
            posts, word, weights = told
            self.assertEqual([type(posts), type(word), type(weights)], [tuple, str, tuple])
            self.assertEqual(len(posts), len(weights))
            self.assertTrue(all(type(weight) is int and weight >= 1 for weight in weights))
            self.assertTrue(max(weights) < 10 ** 1000)
            self.assertTrue(shows(web, posts, word, weights), (web.ties(), told))
            for other in WORDS:
                self.assertIs(is_kind(web, posts, other, weights), other == word)
                self.assertIs(is_kind(web, list(posts), other, weights), other == word)
        if words is not None:
            self.assertEqual([word for _, word, _ in kinds], words)

    def test_by_hand(self):
        self.look_at(Web(1, []), ["all"])
        self.look_at(Web(2, []), ["all", "all"])
        self.look_at(Web(3, [(0, 2, 1, 3)]), ["all", "all"])
        self.look_at(Web(3, [(0, 2, 1, 4)]), ["waves", "all"])
        self.look_at(Web(3, [(0, 1, 4, 1)]), ["waves", "all"])
        self.look_at(Web(2, [(0, 1, 2, 2)]), ["waves"])
        self.look_at(Web(2, [(0, 1, 1, 5)]), ["none"])
        self.look_at(Web(2, [(0, 1, 2, 3)]), ["none"])
        self.look_at(Web(3, [(0, 1, 1, 1), (0, 2, 1, 1), (1, 2, 1, 1)]), ["waves"])
        self.look_at(Web(3, [(0, 1, 1, 2), (0, 2, 1, 1), (1, 2, 1, 1)]), ["none"])

    def test_all_shapes(self):
        for _, _, web in shape_webs(seeded(7)):
            self.look_at(web, ["all"])

    def test_all_waves(self):
        chance = seeded(8)
        for size, ties in waves_ties():
            self.look_at(shuffled(size, ties, chance), ["waves"])

    def test_many_of_none(self):
        chance = seeded(9)
        for size, ties in none_ties():
            self.look_at(shuffled(size, ties, chance), ["none"])

    def test_a_tie_more_than_waves_is_none(self):
        chance = seeded(10)
        for size, ties in waves_ties():
            if size < 12:
                longer = ties + [(chance.randrange(size), size, 1, 1)]
                self.look_at(shuffled(size + 1, longer, chance), ["none"])
            one, other, there, back = ties[0]
            self.look_at(shuffled(size, [(one, other, there + 1, back)] + ties[1:], chance), ["none"])

    def test_drawn_webs(self):
        chance = seeded(11)
        for _ in range(400):
            self.look_at(random_web(chance, chance.randint(1, 12), -3, chance.choice((1, 1, 2, 3, 9))), None)

    def test_parts_of_unlike_kinds(self):
        chance = seeded(12)
        for _ in range(30):
            web = side_by_side([(3, row_ties([0, 1, 2])), (2, [(0, 1, 2, 2)]), (2, [(0, 1, 3, 3)]), (1, []), (4, [
                (0, 1, 1, 1), (1, 2, 1, 1), (2, 3, 1, 1), (0, 3, 1, 1)])], chance)
            words = {(3, 4): "all", (2, 4): "waves", (2, 9): "none", (1, 1): "all", (4, 4): "waves"}
            wanted = []
            for part in web.parts():
                strength = [there * back for one, _, there, back in web.ties() if one in part]
                wanted.append({1: "all", 2: "waves" if 4 in strength else "none", 3: "all", 4: "waves"}[len(part)])
            self.assertEqual(len(words), len(wanted))
            self.look_at(web, wanted)

    def test_told_kinds_are_new(self):
        web = Web(2, [])
        kinds_of(web).clear()
        self.assertEqual(len(kinds_of(web)), 2)
        same(self, kinds_of(web), kinds_of(web=web))


class TestIsKind(unittest.TestCase):

    def webs(self):
        chance = seeded(13)
        yield from (web for _, _, web in shape_webs(chance))
        for size, ties in waves_ties()[::3] + none_ties():
            yield shuffled(size, ties, chance)

    def test_so_many_times_the_weights(self):
        for web in self.webs():
            posts, word, weights = kinds_of(web)[0]
            for many in (2, 7, 10 ** 900):
                self.assertIs(is_kind(web, posts, word, tuple(many * weight for weight in weights)), True)

    def test_one_weight_otherwise(self):
        for web in self.webs():
            posts, word, weights = kinds_of(web)[0]
            for place in range(len(posts)):
                for more in (-1, 1, 1000, 10 ** 900):
                    other = list(weights)
                    other[place] += more
                    for asked in WORDS:
                        wanted = min(other) >= 1 and shows(web, posts, asked, other)
                        self.assertIs(is_kind(web, posts, asked, tuple(other)), wanted)

    def test_edges_by_hand(self):
        web = Web(2, [(0, 1, 1, 3)])
        for weights, wanted in (((3, 5), True), ((2, 3), False), ((1, 2), False), ((1, 1), False), ((5, 8), True)):
            self.assertIs(is_kind(web, [0, 1], "all", weights), wanted)
        web = Web(2, [(0, 1, 1, 4)])
        for weights, wanted in (((1, 2), True), ((2, 1), False), ((3, 6), True), ((3, 5), False)):
            self.assertIs(is_kind(web, [0, 1], "waves", weights), wanted)
        web = Web(2, [(0, 1, 1, 5)])
        for weights, wanted in (((4, 9), True), ((1, 2), False), ((2, 5), False), ((5, 11), True)):
            self.assertIs(is_kind(web, [0, 1], "none", weights), wanted)
        web = Web(3, [(1, 2, 1, 1)])
        self.assertIs(is_kind(web, [0], "all", (1,)), True)
        self.assertIs(is_kind(web=web, posts=(1, 2), word="all", weights=(1, 1)), True)
        self.assertIs(is_kind(web, [1, 2], "all", (1, 2)), False)

    def test_things_of_any_kind(self):
        web = Web(3, [(0, 1, 1, 1), (1, 2, 1, 1)])
        weights = (3, 4, 3)
        self.assertIs(is_kind(web, [0, 1, 2], "all", weights), True)
        bad = [
            (), (3,), (3, 4), (3, 4, 3, 1), [3, 4, 3], (0, 0, 0), (-3, -4, -3), (3, 4, True), (True, True, True),
            (3, 4, None), (3, 4, "3"), (3, (4,), 3), ((3, 4, 3),), "343", {0: 3, 1: 4, 2: 3}, (3, 4, 3.0), (0, 4, 3),
        ]
        for thing in bad + THINGS:
            for word in WORDS:
                self.assertIs(is_kind(web, [0, 1, 2], word, thing), False)
        for word in THINGS + ["ALL", "all ", "waves\n", ("all",), ["all"], {"all": 1}]:
            if word not in WORDS:
                for thing in [weights] + bad:
                    self.assertIs(is_kind(web, (0, 1, 2), word, thing), False)

    def test_words_of_any_kind(self):
        for web in self.webs():
            posts, _, weights = kinds_of(web)[0]
            for word in THINGS + ["ALL", "All", "wave", "waves\n", "none ", ("none",), ["none"], {"none": 1}]:
                if word not in WORDS:
                    self.assertIs(is_kind(web, posts, word, weights), False)

    def test_truths_are_no_weights(self):
        web = Web(2, [])
        self.assertIs(is_kind(web, [0], "all", (True,)), False)
        self.assertIs(is_kind(web, [0], "all", (1,)), True)
        self.assertIs(is_kind(web, [0], True, (1,)), False)

    def test_no_part(self):
        web = Web(3, [(0, 2, 1, 1)])
        for thing in [[0], [2, 0], (0, 1, 2), [0, True], [0, 2, 2], [False, 2], {0: 1}, "02"] + [
                thing for thing in THINGS if repr(thing) not in ("[0, 2]", "[1]")]:
            for word, weights in (("all", (1, 1)), (None, None)):
                same(self, refusal(self, NoPart, is_kind, web, thing, word, weights).posts, thing)


if __name__ == "__main__":
    unittest.main()
