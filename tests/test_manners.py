"""[2] What is handed in stays as it is, what is told is the asker's own, lists and tuples and names ask the same."""

import copy
import unittest
from itertools import permutations

from giveback.beats import beat_back, beat_on, run_of
from giveback.between import beats_between
from giveback.caselooks import shows_cases
from giveback.cases import cases_of
from giveback.changes import alone, alone_standing, beside, beside_standing, renamed, renamed_standing, without
from giveback.cuts import cut_paper, fewest_cuts, shows_cuts
from giveback.debts import debts_of, single, standing_of, together
from giveback.desk import Desk
from giveback.far import standing_behind
from giveback.folds import folded, folded_standing, spread_standing
from giveback.kinds import is_kind, kinds_of, steps_of
from giveback.peaks import first_above, most_ever
from giveback.returning import comes_back, never_paper, shows_never
from giveback.rings import cord_at, cords_of, row_web, standing_by, turned_cords
from giveback.shapes import home_beats, home_of, shape_of
from giveback.sights import blame, first_shown, showing, shows_all
from giveback.texts import (read_cords, read_debts, read_standing, read_web, show_cords, show_debts, show_standing,
                            show_web)
from giveback.waves import last_owed, wave_beats
from giveback.webs import Web, lots_of, need_standing
from giveback.works import Works
from helping import row_ties, same, spoiled

TIES = row_ties([4, 0, 2, 5]) + [(1, 3, 2, 2)]
PARTS = [0, 2, 4, 5], [1, 3]
STANDING = ((1, 2, 3, 4, 5, 6), (-1, 2, -3, 5, 0, 7))
ORDER = (3, 4, 0, 5, 1, 2)
DEBTS = [(2, 5, 4), (0, 0, 1), (3, 1, 10 ** 40)]
SIGHTS = [(2, 5, "owes"), (0, 0, "has"), (3, 1, "nought"), (0, 0, "has")]
LOTS = [[5, 4], [0, 2], [1], [3]]
# No tie within a lot, and what stands is alike.
FOLDS = [(0, 4, 1, 2), (0, 5, 1, 2), (2, 4, 1, 2), (2, 5, 1, 2), (1, 3, 2, 2)]
ALIKE = ((1, 2, 1, 4, 5, 5), (-1, 2, -1, 5, 0, 0))
CORDS = [(0, 3, 2), (0, 2, 10 ** 40)], [(1, 4, 1)]
TREE = cases_of(Web(6, TIES), PARTS[0], 1)
CUTS = [(1, 3)]
PAPER = [((), (1, 3), (1, 1))]
# What the interface names lists, by its names of the arguments; of cords both halves, of lots the lots too.
LISTS = ("posts", "pairs", "debts", "sights", "lots", "told", "ties")
NEVER = ("step", (1, 3), (1, 1), 0)

# Each function with what is handed in by the interface's names; the web is that of web_for.
OF_WEBS = [
    (lots_of, {"posts": PARTS[0]}), (lots_of, {"posts": PARTS[1]}), (need_standing, {"standing": STANDING}),
    (beat_on, {"standing": STANDING}), (beat_back, {"standing": STANDING}), (run_of, {"standing": STANDING, "beats": 4}),
    (kinds_of, {}), (is_kind, {"posts": PARTS[1], "word": "waves", "weights": (1, 1)}),
    (steps_of, {"posts": PARTS[0], "weights": (1, 2, 3, 4), "standing": STANDING}),
    (comes_back, {"standing": STANDING}), (never_paper, {"standing": STANDING}),
    (shows_never, {"standing": STANDING, "thing": NEVER}), (shows_never, {"standing": STANDING, "thing": list(NEVER)}),
    (shape_of, {"posts": PARTS[0]}), (home_of, {"posts": PARTS[0]}), (home_beats, {}),
    (most_ever, {"standing": STANDING, "post": 3}), (first_above, {"standing": STANDING, "post": 3, "number": 1}),
    (standing_behind, {"standing": STANDING, "beats": 10 ** 18}), (standing_behind, {"standing": STANDING, "beats": -3}),
    (wave_beats, {"posts": PARTS[1]}), (last_owed, {"standing": STANDING}), (renamed, {"order": ORDER}),
    (renamed_standing, {"standing": STANDING, "order": ORDER}), (without, {"pairs": [(0, 4), (1, 3), (0, 4)]}),
    (alone, {"posts": PARTS[0]}), (alone_standing, {"standing": STANDING, "posts": PARTS[1]}),
    (beats_between, {"one": STANDING, "other": ((-1, 2, -3, 5, 0, 7), (-1, 8, 4, 0, -5, -6))}),
    (debts_of, {"standing": STANDING}), (single, {"beat": 3, "post": 2}), (standing_of, {"debts": DEBTS}),
    (together, {"one": STANDING, "other": STANDING}), (shows_all, {"standing": STANDING, "sights": SIGHTS}),
    (showing, {"sights": SIGHTS}), (first_shown, {"sights": SIGHTS}), (blame, {"sights": SIGHTS}),
    (blame, {"sights": SIGHTS + [(2, 1, "has"), (0, 0, "nought"), (2, 1, "owes")]}),
    (cases_of, {"posts": PARTS[0], "half": 0}), (cases_of, {"posts": PARTS[0], "half": 1}),
    (shows_cases, {"posts": PARTS[0], "half": 1, "thing": TREE}), (folded, {"lots": LOTS}),
    (folded_standing, {"lots": LOTS, "standing": ALIKE}), (spread_standing, {"lots": LOTS, "standing": ((1, 2, 3, 4),) * 2}),
    (fewest_cuts, {}), (cut_paper, {}), (shows_cuts, {"told": CUTS, "thing": PAPER}), (show_web, {}),
    (read_standing, {"text": "1,2,3,4,5,6/0,0,0,0,0,-7"}), (read_debts, {"text": "0 0 1; 3 1 9"}),
]
OTHERS = [
    (row_web, {"size": 4}), (cord_at, {"size": 4, "post": 3, "beat": 6}),
    (cords_of, {"size": 3, "standing": ((1, 2, -3), (4, -5, 6))}), (standing_by, {"size": 3, "cords": CORDS}),
    (turned_cords, {"size": 3, "cords": CORDS}), (show_standing, {"standing": STANDING}), (show_debts, {"debts": DEBTS}),
    (show_cords, {"cords": CORDS}), (read_web, {"text": "posts 2\ntie 0 1 1 2"}),
    (read_cords, {"size": 3, "text": "0-2*1 | 0-2*4 0-3*1"}), (Web, {"size": 6, "ties": TIES}),
    (beside, {"one": Web(2, [(0, 1, 1, 2)]), "other": Web(6, TIES)}),
    (beside_standing, {"one": Web(1, []), "standing": ((1,), (2,)), "other": Web(6, TIES), "more": STANDING}),
]
WAVES = [(0, 1, 2, 2), (2, 3, 2, 2), (4, 5, 1, 4)]
OF_ALL = (
    home_beats, most_ever, first_above, debts_of, single, standing_of, together, shows_all, showing, first_shown, blame,
    read_debts,
)


def web_for(function):
    """A web that the function doesn't refuse."""
    if function == last_owed:
        return Web(6, WAVES)
    if function in (folded, folded_standing, spread_standing):
        return Web(6, FOLDS)
    return Web(6, TIES[:3] if function in OF_ALL else TIES)


def asked():
    """(function, what is handed in by names) of each function, in the order of the interface."""
    return [(function, {"web": web_for(function), **handed}) for function, handed in OF_WEBS] + OTHERS


def plain(thing):
    """A thing that is compared sign by sign: each web as its size and ties."""
    if isinstance(thing, Web):
        return "web", len(thing), thing.ties()
    if isinstance(thing, dict):
        return {name: plain(value) for name, value in thing.items()}
    return thing


def as_tuples(name, thing):
    """The same with tuples where the interface lets lists be handed in."""
    if name == "lots":
        return tuple(tuple(lot) for lot in thing)
    if name == "cords":
        return tuple(tuple(row) for row in thing)
    return tuple(thing) if name in LISTS or isinstance(thing, list) and thing in (TREE, PAPER) else thing


class TestFunctions(unittest.TestCase):

    def test_all_of_the_interface_are_asked(self):
        from test_form import INTERFACE
        names = {name for functions in INTERFACE.values() for name in functions}
        self.assertEqual({function.__name__ for function, _ in asked()}, names | {"Web"})

    def test_what_is_handed_in_stays(self):
        for function, handed in asked():
            before = copy.deepcopy(plain(handed))
            spoiled(plain(function(**handed)))
            same(self, plain(handed), before)

    def test_the_same_each_time_whatever_became_of_what_was_told(self):
        for function, handed in asked():
            told = function(**handed)
            kept = copy.deepcopy(plain(told))
            spoiled(told)
            spoiled(plain(told))
            same(self, plain(function(**handed)), kept)
            if "web" in handed:
                same(self, plain(function(**{**handed, "web": web_for(function)})), kept)

    def test_by_places_and_by_names_in_any_order(self):
        for function, handed in asked():
            wanted = plain(function(*handed.values()))
            for names in permutations(handed):
                same(self, plain(function(**{name: handed[name] for name in names})), wanted)
            for many in range(len(handed)):
                named = dict(list(handed.items())[many:])
                same(self, plain(function(*list(handed.values())[:many], **named)), wanted)

    def test_lists_as_tuples(self):
        for function, handed in asked():
            other = {name: as_tuples(name, thing) for name, thing in handed.items()}
            same(self, plain(function(**other)), plain(function(**handed)))

    def test_told_webs_are_nobody_elses(self):
        web = web_for(renamed)
        for told in (renamed(web, tuple(range(6))), without(web, []), alone(Web(2, [(0, 1, 1, 2)]), [0, 1]), row_web(3)):
            kept = told.ties()
            told.ties().clear()
            told.parts()[0].clear()
            same(self, told.ties(), kept)

    def test_two_webs(self):
        one, other = Web(2, [(0, 1, 1, 2)]), Web(6, TIES)
        first = ((1, 2), (3, -4))
        for _ in range(2):
            spoiled(plain(beside(one, other)))
            spoiled(beside_standing(one, first, other, STANDING))
            self.assertTrue(one == Web(2, [(0, 1, 1, 2)]) and other == Web(6, TIES))
        same(self, first, ((1, 2), (3, -4)))
        same(self, beside_standing(one, first, other, more=STANDING)[0], (1, 2, 1, 2, 3, 4, 5, 6))

    def test_webs_keep_copies(self):
        ties = list(TIES)
        web = Web(6, ties)
        ties.clear()
        same(self, web.ties(), sorted(TIES))


class TestMethods(unittest.TestCase):

    def test_by_places_and_by_names_in_any_order(self):
        web = Web(6, TIES)
        same(self, web.cords(other=4, one=0), web.cords(0, 4))
        deeds = [
            ("put", {"post": 2, "number": -7}), ("bind", {"one": 5, "other": 3, "there": 1, "back": 4}), ("go", {"beats": 5}),
            ("cut", {"one": 3, "other": 5}), ("undo", {}),
        ]
        for turn in range(24):
            works, other = Works(web), Works(web=web)
            for method, handed in deeds:
                names = list(permutations(handed))
                names = names[turn % len(names)]
                same(self, getattr(works, method)(*handed.values()), None)
                same(self, getattr(other, method)(**{name: handed[name] for name in names}), None)
            same(self, (works.deeds(), works.standing(), len(works)), (other.deeds(), other.standing(), len(other)))
            self.assertTrue(works.web() == other.web())
            for method in ("web", "standing", "kinds", "comes_back"):
                same(self, plain(getattr(works, method)(upto=None)), plain(getattr(other, method)()))
        same(self, Desk().say(row="kinds"), Desk().say("kinds"))

    def test_what_is_told_is_new(self):
        web, works = Web(6, TIES), Works(Web(6, TIES))
        works.put(0, 1)
        for ask in (web.ties, web.parts, works.deeds, works.kinds):
            kept = copy.deepcopy(ask())
            spoiled(ask())
            same(self, ask(), kept)


if __name__ == "__main__":
    unittest.main()
