"""[2] What is handed in stays as it is, what is told is the asker's own, lists and tuples and names ask the same."""

import copy
import unittest

from giveback.beats import beat_back, beat_on, run_of
from giveback.kinds import is_kind, kinds_of, steps_of
from giveback.peaks import first_above, most_ever
from giveback.returning import comes_back, never_paper, shows_never
from giveback.shapes import home_beats, home_of, shape_of
from giveback.webs import Web, lots_of, need_standing
from helping import row_ties, same

TIES = row_ties([4, 0, 2, 5]) + [(1, 3, 2, 2)]
PARTS = [0, 2, 4, 5], [1, 3]
STANDING = ((1, 2, 3, 4, 5, 6), (-1, 2, -3, 5, 0, 7))
NEVER = ("step", (1, 3), (1, 1), 0)

# Each function with what is handed in by the interface's names; the web of all of them is of TIES, or of its first three.
ASKED = [
    (lots_of, {"posts": PARTS[0]}), (lots_of, {"posts": PARTS[1]}), (need_standing, {"standing": STANDING}),
    (beat_on, {"standing": STANDING}), (beat_back, {"standing": STANDING}), (run_of, {"standing": STANDING, "beats": 4}),
    (kinds_of, {}), (is_kind, {"posts": PARTS[1], "word": "waves", "weights": (1, 1)}),
    (steps_of, {"posts": PARTS[0], "weights": (1, 2, 3, 4), "standing": STANDING}),
    (comes_back, {"standing": STANDING}), (never_paper, {"standing": STANDING}),
    (shows_never, {"standing": STANDING, "thing": NEVER}), (shows_never, {"standing": STANDING, "thing": list(NEVER)}),
    (shape_of, {"posts": PARTS[0]}), (home_of, {"posts": PARTS[0]}), (home_beats, {}),
    (most_ever, {"standing": STANDING, "post": 3}), (first_above, {"standing": STANDING, "post": 3, "number": 1}),
]


def web_for(function):
    """A web that the function doesn't refuse."""
    return Web(6, TIES[:3] if function in (home_beats, most_ever, first_above) else TIES)


def spoiled(told):
    """Change every list in what was told."""
    if isinstance(told, (list, tuple)):
        for thing in told:
            spoiled(thing)
    if isinstance(told, list):
        told.append("spoiled")


class TestManners(unittest.TestCase):

    def test_what_is_handed_in_stays(self):
        for function, handed in ASKED:
            web = web_for(function)
            before = copy.deepcopy(handed)
            spoiled(function(web, **handed))
            same(self, handed, before)
            self.assertTrue(web == web_for(function))

    def test_the_same_each_time_whatever_became_of_what_was_told(self):
        for function, handed in ASKED:
            web = web_for(function)
            first = function(web, **handed)
            kept = copy.deepcopy(first)
            spoiled(first)
            same(self, function(web, **handed), kept)
            same(self, function(web_for(function), **handed), kept)

    def test_by_places_and_by_names(self):
        for function, handed in ASKED:
            web = web_for(function)
            same(self, function(web, *handed.values()), function(web=web, **handed))
            same(self, function(**handed, web=web), function(web, **handed))

    def test_posts_as_a_tuple(self):
        for function, handed in ASKED:
            if "posts" in handed:
                web = web_for(function)
                other = {**handed, "posts": tuple(handed["posts"])}
                same(self, function(web, **other), function(web, **handed))


if __name__ == "__main__":
    unittest.main()
