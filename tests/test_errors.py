"""The refusals: where each class stands, and its fields."""

import unittest

from giveback import errors
from giveback.webs import Web
from helping import THINGS

CLASSES = {
    ValueError: {
        "NoWeb": ["part"], "NoStanding": ["part"], "NoPart": ["posts"], "NoDebts": ["one", "other"],
        "NoCords": ["half", "one", "other"], "NoLots": ["one", "other"], "NotAlike": ["post"], "NoText": ["asked"],
        "NoAsk": ["asked"], "NoNumber": ["number"], "NoBeats": ["beats"], "NoSight": ["number"],
    },
    KeyError: {"NoPost": ["post"], "NoTie": ["tie"]},
    LookupError: {"NoDeed": [], "NoDeeds": ["asked"], "NotAll": ["posts"], "NotWaves": ["posts"]},
    ArithmeticError: {"TooGreat": ["beats"], "Full": ["beats"]},
    RuntimeError: {"TooMany": ["many"]},
}


class TestErrors(unittest.TestCase):

    def test_each_class_is_straight_under_its_own(self):
        for base, classes in CLASSES.items():
            for name in classes:
                with self.subTest(name):
                    found = getattr(errors, name)
                    self.assertEqual(found.__bases__, (base,))
                    self.assertEqual(found.__module__, "giveback.errors")

    def test_there_are_no_others(self):
        named = {name for classes in CLASSES.values() for name in classes}
        found = {name for name, thing in vars(errors).items() if isinstance(thing, type)}
        self.assertEqual(found, named)

    def test_fields_are_set_by_places_and_by_names(self):
        for classes in CLASSES.values():
            for name, fields in classes.items():
                with self.subTest(name):
                    values = [(3, 1), None, 7][:len(fields)]
                    for error in (getattr(errors, name)(*values), getattr(errors, name)(**dict(zip(fields, values)))):
                        self.assertEqual([getattr(error, field) for field in fields], values)
                        self.assertEqual(set(vars(error)), set(fields))

    def test_what_was_handed_in_is_kept_as_a_copy(self):
        handed = [0, [1, {"a": [2]}], ([3],)]
        error = errors.NoPart(handed)
        self.assertEqual(error.posts, [0, [1, {"a": [2]}], ([3],)])
        handed[1][1]["a"].append(4)
        handed[2][0].append(5)
        handed.append(6)
        self.assertEqual(error.posts, [0, [1, {"a": [2]}], ([3],)])
        error.posts[1].append(7)
        self.assertEqual(handed, [0, [1, {"a": [2, 4]}], ([3, 5],), 6])

    def test_copies_are_like_what_was_handed_in(self):
        for thing in THINGS:
            for kind in (errors.NoPart, errors.NoPost, errors.NoBeats, errors.NoText, errors.NoTie):
                kept = list(vars(kind(thing)).values())
                self.assertEqual(repr(kept), repr([thing]))

    def test_what_lies_deep_is_refused_like_all_else(self):
        deep = []
        for _ in range(20000):
            deep = [deep]
        with self.assertRaises(errors.NoPost) as caught:
            Web(1, []).cords(deep, 0)
        kept = caught.exception.post
        for _ in range(20000):
            self.assertEqual(len(kept), 1)
            kept, deep = kept[0], deep[0]
        self.assertEqual(kept, [])


if __name__ == "__main__":
    unittest.main()
