"""[32] The most that a post ever has, and when it has more than a number."""

import unittest

from giveback.errors import NoPost, NoStanding, NotAll
from giveback.peaks import first_above, most_ever
from giveback.shapes import home_beats
from giveback.webs import Web
from helping import SHAPES, THINGS, drawn, refusal, same, seeded, shape_ties, shape_webs, side_by_side, slow_run


class TestPeaks(unittest.TestCase):

    def look_at(self, web, standing, beats):
        """All peaks of a standing beside its beats gone one by one; so many beats bring it home."""
        run = [told[1] for told in slow_run(web, standing, 2 * beats)]
        for post in range(len(web)):
            having = [now[post] for now in run]
            most = max(having)
            same(self, most_ever(web, standing, post), (most, having.index(most)))
            for number in {most, most - 1, having[0], having[1], min(having) - 1}:
                wanted = next((beat for beat, has in enumerate(having) if has > number), None)
                same(self, first_above(web, standing, post, number), wanted)

    def test_by_hand(self):
        web = Web(2, [(0, 1, 1, 1)])
        standing = ((0, 0), (-1, 0))
        run = [now for _, now in slow_run(web, standing, 5)]
        self.assertEqual(run, [(-1, 0), (0, 0), (1, 0), (0, 1), (0, 0), (0, -1)])
        same(self, most_ever(web, standing, 0), (1, 2))
        same(self, most_ever(web, standing, 1), (1, 3))
        same(self, first_above(web, standing, 0, 0), 2)
        same(self, first_above(web, standing, 0, -1), 1)
        same(self, first_above(web, standing, 0, -2), 0)
        same(self, first_above(web, standing, 0, 1), None)
        same(self, first_above(web, standing, 0, 10 ** 40), None)
        same(self, first_above(web, standing, 0, -10 ** 40), 0)
        same(self, most_ever(Web(1, []), ((5,), (-7,)), 0), (7, 2))
        same(self, most_ever(Web(1, []), ((-8,), (-7,)), 0), (8, 1))
        same(self, most_ever(Web(1, []), ((8,), (7,)), 0), (8, 3))

    def test_nought(self):
        for word, size in SHAPES:
            web = Web(size, shape_ties(word, list(range(size))))
            standing = ((0,) * size, (0,) * size)
            for post in range(size):
                same(self, most_ever(web, standing, post), (0, 0))
                same(self, first_above(web, standing, post, 0), None)
                same(self, first_above(web, standing, post, -1), 0)

    def test_all_shapes(self):
        chance = seeded(30)
        for _, _, web in shape_webs(chance):
            for most in (1, 10 ** 28):
                self.look_at(web, drawn(chance, len(web), most), home_beats(web))

    def test_posts_of_each_part(self):
        chance = seeded(31)
        parts = [(size, shape_ties(word, list(range(size)))) for word, size in (
            ("row", 2), ("middle", 4), ("row", 1), ("fork", 5))]
        for _ in range(5):
            web = side_by_side(parts, chance)
            self.look_at(web, drawn(chance, 12, 10 ** 28), home_beats(web))

    def test_refused_in_their_order(self):
        web = Web(5, [(0, 3, 1, 1), (1, 4, 2, 2)])
        fine = Web(2, [])
        good = ((0,) * 5, (1,) * 5)
        for call in (most_ever, lambda *told: first_above(*told, 3)):
            same(self, refusal(self, NoStanding, call, web, (good[0], [1] * 5), 9).part, "standing")
            same(self, refusal(self, NoStanding, call, web, (good[0], (True,) * 5), 9).part, "numbers")
            same(self, refusal(self, NoStanding, call, fine, None, 9).part, "standing")
            for post in (0, 1, 9, None):
                same(self, refusal(self, NotAll, call, web, good, post).posts, (1, 4))
            for post in [thing for thing in THINGS if repr(thing) not in ("0", "1")] + [2, -1]:
                same(self, refusal(self, NoPost, call, fine, ((0, 0), (0, 0)), post).post, post)

    def test_arguments_by_names(self):
        web = Web(1, [])
        same(self, most_ever(web=web, standing=((5,), (-7,)), post=0), (7, 2))
        same(self, first_above(web=web, standing=((5,), (-7,)), post=0, number=6), 2)


if __name__ == "__main__":
    unittest.main()
