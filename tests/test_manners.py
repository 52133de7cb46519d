"""[2] What is handed in stays as it is, what is told is the asker's own, lists and tuples and names ask the same."""

import copy
import unittest

from giveback.beats import beat_back, beat_on, run_of
from giveback.between import beats_between
from giveback.cases import cases_of
from giveback.changes import alone, alone_standing, beside, beside_standing, renamed, renamed_standing, without
from giveback.debts import debts_of, single, standing_of, together
from giveback.far import standing_behind
from giveback.kinds import is_kind, kinds_of, steps_of
from giveback.peaks import first_above, most_ever
from giveback.returning import comes_back, never_paper, shows_never
from giveback.shapes import home_beats, home_of, shape_of
from giveback.sights import blame, first_shown, showing, shows_all
from giveback.waves import last_owed, wave_beats
from giveback.webs import Web, lots_of, need_standing
from helping import row_ties, same

TIES = row_ties([4, 0, 2, 5]) + [(1, 3, 2, 2)]
PARTS = [0, 2, 4, 5], [1, 3]
STANDING = ((1, 2, 3, 4, 5, 6), (-1, 2, -3, 5, 0, 7))
ORDER = (3, 4, 0, 5, 1, 2)
DEBTS = [(2, 5, 4), (0, 0, 1), (3, 1, 10 ** 40)]
SIGHTS = [(2, 5, "owes"), (0, 0, "has"), (3, 1, "nought"), (0, 0, "has")]
# What the interface names lists, by its names of the arguments.
LISTS = ("posts", "pairs", "debts", "sights")
NEVER = ("step", (1, 3), (1, 1), 0)

# Each function with what is handed in by the interface's names; the web of all of them is of TIES, or of its first three.
ASKED = [
    (lots_of, {"posts": PARTS[0]}), (lots_of, {"posts": PARTS[1]}), (need_standing, {"standing": STANDING}),
    (beat_on, {"standing": STANDING}), (beat_back, {"standing": STANDING}), (run_of, {"standing": STANDING, "beats": 4}),
    (kinds_of, {}), (is_kind, {"posts": PARTS[1], "word": "waves", "weights": (1, 1)}),
    (steps_of, {"posts": PARTS[0], "weights": (1, 2, 3, 4), "standing": STANDING}),
    (comes_back, {"standing": STANDING}), (never_paper, {"standing": STANDING}),
    (shows_never, {"standing": STANDING, "thing": NEVER}), (shows_never, {"standing": STANDING, "thing": list(NEVER)}),
    (shape_of, {"posts": PARTS[0]}), (home_of, {"posts": PARTS[0]}), (home_beats, {}),
    (most_ever, {"standing": STANDING, "post": 3}), (first_above, {"standing": STANDING, "post": 3, "number": 1}),
    (standing_behind, {"standing": STANDING, "beats": 10 ** 18}), (standing_behind, {"standing": STANDING, "beats": -3}),
    (wave_beats, {"posts": PARTS[1]}), (last_owed, {"standing": STANDING}), (renamed, {"order": ORDER}),
    (renamed_standing, {"standing": STANDING, "order": ORDER}), (without, {"pairs": [(0, 4), (1, 3), (0, 4)]}),
    (alone, {"posts": PARTS[0]}), (alone_standing, {"standing": STANDING, "posts": PARTS[1]}),
    (beats_between, {"one": STANDING, "other": ((-1, 2, -3, 5, 0, 7), (-1, 8, 4, 0, -5, -6))}),
    (debts_of, {"standing": STANDING}), (single, {"beat": 3, "post": 2}), (standing_of, {"debts": DEBTS}),
    (together, {"one": STANDING, "other": STANDING}), (shows_all, {"standing": STANDING, "sights": SIGHTS}),
    (showing, {"sights": SIGHTS}), (first_shown, {"sights": SIGHTS}), (blame, {"sights": SIGHTS}),
    (blame, {"sights": SIGHTS + [(2, 1, "has"), (0, 0, "nought"), (2, 1, "owes")]}),
    (cases_of, {"posts": PARTS[0], "half": 0}), (cases_of, {"posts": PARTS[0], "half": 1}),
]
WAVES = [(0, 1, 2, 2), (2, 3, 2, 2), (4, 5, 1, 4)]
OF_ALL = (
    home_beats, most_ever, first_above, debts_of, single, standing_of, together, shows_all, showing, first_shown, blame,
)


def web_for(function):
    """A web that the function doesn't refuse."""
    if function == last_owed:
        return Web(6, WAVES)
    return Web(6, TIES[:3] if function in OF_ALL else TIES)


def shown(told):
    """What was told, a web as its size and ties."""
    return (len(told), told.ties()) if isinstance(told, Web) else told


def spoiled(told):
    """Change every list in what was told."""
    if isinstance(told, (list, tuple)):
        for thing in told:
            spoiled(thing)
    if isinstance(told, list):
        told.append("spoiled")


class TestManners(unittest.TestCase):

    def test_what_is_handed_in_stays(self):
        for function, handed in ASKED:
            web = web_for(function)
            before = copy.deepcopy(handed)
            spoiled(shown(function(web, **handed)))
            same(self, handed, before)
            self.assertTrue(web == web_for(function))

    def test_the_same_each_time_whatever_became_of_what_was_told(self):
        for function, handed in ASKED:
            web = web_for(function)
            first = shown(function(web, **handed))
            kept = copy.deepcopy(first)
            spoiled(first)
            same(self, shown(function(web, **handed)), kept)
            same(self, shown(function(web_for(function), **handed)), kept)

    def test_by_places_and_by_names(self):
        for function, handed in ASKED:
            web = web_for(function)
            same(self, shown(function(web, *handed.values())), shown(function(web=web, **handed)))
            same(self, shown(function(**handed, web=web)), shown(function(web, **handed)))

    def test_lists_as_tuples(self):
        for function, handed in ASKED:
            web = web_for(function)
            other = {name: tuple(thing) if name in LISTS else thing for name, thing in handed.items()}
            same(self, shown(function(web, **other)), shown(function(web, **handed)))

    def test_told_webs_are_nobody_elses(self):
        web = web_for(renamed)
        for told in (renamed(web, tuple(range(6))), without(web, []), alone(Web(2, [(0, 1, 1, 2)]), [0, 1])):
            kept = told.ties()
            told.ties().clear()
            same(self, told.ties(), kept)

    def test_two_webs(self):
        one, other = Web(2, [(0, 1, 1, 2)]), Web(6, TIES)
        first = ((1, 2), (3, -4))
        for _ in range(2):
            spoiled(shown(beside(one, other)))
            spoiled(beside_standing(one, first, other, STANDING))
            self.assertTrue(one == Web(2, [(0, 1, 1, 2)]) and other == Web(6, TIES))
        same(self, first, ((1, 2), (3, -4)))
        same(self, beside_standing(one, first, other, more=STANDING)[0], (1, 2, 1, 2, 3, 4, 5, 6))


if __name__ == "__main__":
    unittest.main()
