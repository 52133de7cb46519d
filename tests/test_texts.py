"""[70] Texts of webs, standings, debts and cords, shown and read again."""

import re
import unittest
from itertools import combinations

from giveback.debts import debts_of, standing_of
from giveback.errors import NotAll, NoText, NoWeb
from giveback.rings import cords_of, row_web
from giveback.texts import (read_cords, read_debts, read_standing, read_web, show_cords, show_debts, show_standing,
                            show_web)
from giveback.webs import Web
from helping import (THINGS, drawn, nought, random_web, refusal, row_ties, same, seeded, shape_ties, shape_webs,
                     side_by_side, slow_behind, slow_run)

FIGURES = 1000
MOST = 10 ** 30
# No text of anything, whatever it is read as.
NO_TEXTS = [thing for thing in THINGS if thing != "none"] + [
    " ", "\n", "posts", "tie", "None", "[]", "()", "0 0", "0/", "/0", "-", "a/b", "- |-", "-|-", " - | -", ["posts 1"], ("0/0",),
    {"none": 1}, "posts 1 ", " posts 1", "posts  1", "posts 1\n", "posts 1\n\n", "POSTS 1", "posts 01", "posts +1", "posts -1",
    "posts -0", "posts 0", "posts 13", "posts 1.0", "posts 1_0", "posts one", "post 1", "posts\t1", "posts 1 1", "none ", "none\n",
    " none", "None", "nones", "none; none", "none | none", "0/0\n", "0 /0", "00/0", "-0/0", "+0/0", "0/0/0", "0//0", "0", "0,/0",
    "- | - | -", "- | ", " | -", "- | -\n", "- | - ", "-  |  -", "--1/0", "0/--1", "0x1/0", "1e3/0", "\u0661/0", "\u00b2/0",
]
SIGNS = "0123459-+ ,;/|*\nnpt_."


def number(text):
    """The number that a text is of, None where it is of none."""
    found = re.fullmatch("0|-?[1-9][0-9]*", text, re.ASCII)
    return int(text) if found and len(text.lstrip("-")) <= FIGURES else None


def numbers(texts):
    """The numbers of texts, a tuple, None where one is of none."""
    found = tuple(number(text) for text in texts)
    return None if None in found else found


def second_web(text):
    """(size, ties) of the web that a text is of, None of none."""
    first, *rows = text.split("\n")
    ties = [numbers(row[4:].split(" ")) if row.startswith("tie ") else None for row in rows]
    size = number(first[6:]) if first.startswith("posts ") else None
    if size is None or not 1 <= size <= 12 or any(tied is None or len(tied) != 4 for tied in ties):
        return None
    good = all(0 <= one < other < size and 1 <= there <= 9 and 1 <= back <= 9 for one, other, there, back in ties)
    pairs = [tied[:2] for tied in ties]
    return (size, ties) if good and pairs == sorted(set(pairs)) else None


def second_standing(size, text):
    """The standing of so many posts that a text is of, None of none."""
    rows = [numbers(row.split(",")) for row in text.split("/")]
    if len(rows) != 2 or None in rows or any(len(row) != size for row in rows):
        return None
    return tuple(rows) if max(abs(n) for row in rows for n in row) <= MOST else None


def second_debts(web, lengths, text):
    """The debts of a web, of posts with rounds of such lengths, that a text is of, None of none."""
    debts = [] if text == "none" else [numbers(row.split(" ")) for row in text.split("; ")]
    if any(debt is None or len(debt) != 3 for debt in debts):
        return None
    if not all(0 <= post < len(web) and 0 <= beat < lengths[post] and owed >= 1 for beat, post, owed in debts):
        return None
    if debts != sorted(debts) or len({debt[:2] for debt in debts}) < len(debts):
        return None
    runs = []
    for beat, post, _ in debts:
        there = (0,) * len(web), tuple(-int(k == post) for k in range(len(web)))
        runs.append(slow_run(web, slow_behind(web, there, -beat), 2 * max(lengths)))
    for one, other in combinations(runs, 2):
        if any(low * high < 0 for (_, row), (_, beside) in zip(one, other) for low, high in zip(row, beside)):
            return None
    return debts


def second_cords(size, text):
    """The cords of a row of so many posts that a text is of, None of none."""
    halves = []
    for half in text.split(" | "):
        row = []
        for word in [] if half == "-" else half.split(" "):
            found = re.fullmatch("([0-9]+)-([0-9]+)[*]([0-9]+)", word, re.ASCII)
            row.append(numbers(found.groups()) if found else None)
        if None in row or row != sorted(row) or not all(many >= 1 for _, _, many in row):
            return None
        if not all(low + 2 <= high <= size + 2 and (low, high) != (0, size + 2) for low, high, _ in row):
            return None
        for (low, high, _), (below, above, _) in combinations(row, 2):
            if (low, high) == (below, above) or low < below < high < above:
                return None
        halves.append(row)
    return tuple(halves) if len(halves) == 2 else None


def spoilt(text, chance, most=400):
    """Texts with a sign otherwise, put in, left out or twice; of long texts some of them."""
    found = set()
    for at in range(len(text) + 1):
        found |= {text[:at] + sign + text[at:] for sign in SIGNS}
        found |= {text[:at] + sign + text[at + 1:] for sign in SIGNS}
        found |= {text[:at] + text[at + 1:], text[:at] + text[at:at + 1] + text[at:]}
    found = sorted(found - {text})
    return chance.sample(found, min(most, len(found)))


class TestWebs(unittest.TestCase):

    def test_by_hand(self):
        same(self, show_web(Web(1, [])), "posts 1")
        same(self, show_web(Web(12, [(3, 11, 2, 1), (0, 10, 9, 8)])), "posts 12\ntie 0 10 9 8\ntie 3 11 2 1")
        self.assertTrue(read_web("posts 2\ntie 0 1 3 4") == Web(2, [(0, 1, 3, 4)]))

    def test_shown_and_read_again(self):
        chance = seeded(250)
        for size in range(1, 13):
            for extra in (-20, 0, 5):
                web = random_web(chance, size, extra)
                text = show_web(web=web)
                rows = [f"tie {one} {other} {there} {back}" for one, other, there, back in web.ties()]
                same(self, text, "\n".join([f"posts {size}"] + rows))
                told = read_web(text=text)
                self.assertIs(type(told), Web)
                self.assertTrue(told == web)
                same(self, (show_web(told), second_web(text)), (text, (size, web.ties())))

    def test_spoilt(self):
        chance = seeded(251)
        read = 0
        webs = [Web(1, []), Web(2, [(0, 1, 3, 4)]), Web(12, [(0, 11, 9, 1), (1, 10, 1, 2), (1, 11, 1, 1)])]
        for web in webs + [random_web(chance, size) for size in (3, 5, 12)]:
            for text in spoilt(show_web(web), chance, 800):
                told = second_web(text)
                if told is None:
                    same(self, refusal(self, NoText, read_web, text).asked, text)
                else:
                    self.assertTrue(read_web(text) == Web(*told))
                    same(self, show_web(read_web(text)), text)
                    read += 1
        self.assertGreater(read, 50)

    def test_no_text(self):
        bad = [
            "posts 3\ntie 1 2 1 1\ntie 0 1 1 1", "posts 3\ntie 0 1 1 1\ntie 0 1 1 1", "posts 3\ntie 0 1 1 1\ntie 0 1 2 1",
            "posts 3\ntie 1 0 1 1", "posts 3\ntie 0 0 1 1", "posts 3\ntie 0 3 1 1", "posts 3\ntie 0 1 0 1", "posts 3\ntie 0 1 1 10",
            "posts 3\ntie 0 1 1", "posts 3\ntie 0 1 1 1 1", "posts 3\n", "posts 3\n\ntie 0 1 1 1", "tie 0 1 1 1\nposts 3", "tie 0 1 1 1",
            "posts 3\ntie 0 01 1 1", "posts 3\ntie 0 1 1 1\n", "posts 3 tie 0 1 1 1", "posts 3\ntie -0 1 1 1", "posts 3\ntie 0 1 +1 1",
            "posts 3\ntie\n0 1 1 1", "posts 3\r\ntie 0 1 1 1", "posts 3; tie 0 1 1 1", "posts 3\nbind 0 1 1 1", "posts 3\nposts 3",
            "posts 1" + "0" * 1100, "posts 1" + "0" * 5000, "0/0", "- | -", "0-2*1 | -", "0 0 1", "none", "posts 2\ntie 0 1 1 1" * 2,
        ]
        for thing in bad + NO_TEXTS:
            same(self, refusal(self, NoText, read_web, thing).asked, thing)


class TestStandings(unittest.TestCase):

    def test_by_hand(self):
        same(self, show_standing(((0,), (-1,))), "0/-1")
        same(self, show_standing(((1, -20), (0, MOST))), "1,-20/0,1000000000000000000000000000000")
        same(self, read_standing(Web(2, []), "1,-20/0,3"), ((1, -20), (0, 3)))

    def test_shown_and_read_again(self):
        chance = seeded(252)
        for size in range(1, 13):
            web = random_web(chance, size)
            for most in (1, 99, MOST):
                standing = drawn(chance, size, most)
                text = show_standing(standing=standing)
                same(self, text, "/".join(",".join(map(str, row)) for row in standing))
                same(self, read_standing(text=text, web=web), standing)
            top = ((MOST,) * size, (-MOST,) * size)
            same(self, read_standing(web, show_standing(top)), top)
            same(self, read_standing(web, show_standing(nought(web))), nought(web))

    def test_spoilt(self):
        chance = seeded(253)
        read = 0
        for size, most in ((1, 9), (1, MOST), (2, 3), (3, 99), (4, 10 ** 29), (12, 5)):
            web = random_web(chance, size)
            top = tuple((MOST - number,) * size for number in (0, 1))
            for standing in (drawn(chance, size, most), top):
                for text in spoilt(show_standing(standing), chance):
                    told = second_standing(size, text)
                    if told is None:
                        same(self, refusal(self, NoText, read_standing, web, text).asked, text)
                    else:
                        same(self, read_standing(web, text), told)
                        same(self, show_standing(told), text)
                        read += 1
        self.assertGreater(read, 100)

    def test_no_text(self):
        good = "1,2,-3/4,0,6"
        same(self, read_standing(Web(3, []), good), ((1, 2, -3), (4, 0, 6)))
        bad = [
            "1,2,3/4,5", "1,2/4,5,6", "1,2,3,4/5,6,7", "1,2,3", "1,2,3/4,5,6/7,8,9", "1, 2,3/4,5,6", "1,2,3 /4,5,6", good + "\n",
            "01,2,3/4,5,6", "1,2,3/4,5,-0", "1,+2,3/4,5,6", "1;2;3/4;5;6", "1,2,3\n4,5,6", f"{MOST + 1},0,0/0,0,0", ",,/,,",
            f"0,0,0/0,0,{-MOST - 1}", "True,0,0/0,0,0", "1,2,3/4,5,6,", "0,0,0/0,0,1" + "0" * 998, "((1, 2, 3), (4, 5, 6))",
            "0,0,0/0,0,1" + "0" * 6000, "1,2,3|4,5,6", "1,2,3/4,5,6 ", "0/0", "0,0/0,0", "posts 3", "- | -", "none", "0 0 1",
        ]
        for thing in bad + NO_TEXTS:
            same(self, refusal(self, NoText, read_standing, Web(3, []), thing).asked, thing)


class TestDebts(unittest.TestCase):

    def test_by_hand(self):
        same(self, show_debts([]), "none")
        same(self, show_debts(()), "none")
        same(self, show_debts([(0, 2, 7)]), "0 2 7")
        same(self, show_debts(((0, 1, 10), (11, 2, 3))), "0 1 10; 11 2 3")
        pair = Web(2, [(0, 1, 1, 1)])
        same(self, read_debts(pair, "none"), [])
        same(self, read_debts(pair, "0 0 2; 0 1 3"), [(0, 0, 2), (0, 1, 3)])

    def test_shown_and_read_again(self):
        chance = seeded(254)
        for _, order, web in shape_webs(chance):
            for most in (1, MOST):
                debts = debts_of(web, drawn(chance, len(order), most))
                text = show_debts(debts=debts)
                same(self, text, "; ".join(" ".join(map(str, debt)) for debt in debts) or "none")
                told = read_debts(web=web, text=text)
                self.assertIs(type(told), list)
                same(self, told, debts)
                same(self, show_debts(tuple(debts)), text)
            same(self, read_debts(web, "none"), [])
            told = read_debts(web, "0 0 1")
            told.clear()
            same(self, read_debts(web, "0 0 1"), [(0, 0, 1)])

    def test_a_thousand_figures(self):
        web = Web(3, [(0, 1, 1, 1)])
        for owed in (10 ** 999, 10 ** 1000 - 1):
            debts = [(0, 1, owed), (2, 2, owed)]
            same(self, read_debts(web, show_debts(debts)), debts)
            same(self, debts_of(web, nought(web)), [])
            same(self, standing_of(web, debts)[1], (0, -owed, owed))
        for text in ("0 1 1" + "0" * 1000, "0 1 " + "9" * 1001, "0 1 1; 2 2 1" + "0" * 1000, "0 1 " + "1" * 5000):
            same(self, refusal(self, NoText, read_debts, web, text).asked, text)

    def test_spoilt(self):
        chance = seeded(255)
        read = 0
        # (web, the beats of each post's home)
        webs = [
            (Web(1, []), [4]), (Web(2, [(0, 1, 1, 1)]), [5, 5]), (Web(3, [(0, 1, 1, 2)]), [6, 6, 4]),
            (Web(4, row_ties([2, 0, 3])), [6, 4, 6, 6]), (Web(4, shape_ties("fork", [0, 1, 2, 3])), [8] * 4),
        ]
        for web, lengths in webs:
            for most in (1, 20):
                debts = debts_of(web, drawn(chance, len(web), most))
                same(self, second_debts(web, lengths, show_debts(debts)), debts)
                for text in spoilt(show_debts(debts), chance):
                    told = second_debts(web, lengths, text)
                    if told is None:
                        same(self, refusal(self, NoText, read_debts, web, text).asked, text)
                    else:
                        same(self, read_debts(web, text), told)
                        same(self, show_debts(told), text)
                        read += 1
        self.assertGreater(read, 50)

    def test_no_text(self):
        web = Web(3, row_ties([0, 1, 2]))
        same(self, read_debts(web, "0 0 1; 0 2 4; 1 1 2"), [(0, 0, 1), (0, 2, 4), (1, 1, 2)])
        bad = [
            "0 2 4; 0 0 1", "0 0 1; 0 0 1", "0 0 1; 0 0 2", "0 0 1; 2 0 1", "0 0 1; 1 1 2; 0 2 4", "0 0 0", "0 0 -1", "0 3 1", "6 0 1",
            "-1 0 1", "0 0", "0 0 1 1", "0 0 1;0 2 4", "0 0 1;  0 2 4", "0 0 1; ", "; 0 0 1", "0 0 1; none", "none; 0 0 1", "0  0 1",
            "0 0 01", "00 0 1", "0 -0 1", "0 0 +1", "0 0 1\n", "0 0 1, 0 2 4", "(0, 0, 1)", "0 0 1; 0 2 4; ", "", "posts 3",
            "0,0,0/0,0,0", "- | -", "0-2*1 | -",
        ]
        for thing in bad + NO_TEXTS:
            same(self, refusal(self, NoText, read_debts, web, thing).asked, thing)

    def test_behind_not_all(self):
        chance = seeded(256)
        parts = [(2, [(0, 1, 2, 2)]), (3, row_ties([0, 1, 2])), (2, [(0, 1, 3, 3)])]
        for _ in range(5):
            web = side_by_side(parts, chance)
            wrong = min(tied[:2] for tied in web.ties() if tied[2] > 1)
            for thing in THINGS + ["none", "0 0 1", "0 0 0"]:
                same(self, refusal(self, NotAll, read_debts, web, thing).posts, wrong)


class TestCords(unittest.TestCase):

    def test_by_hand(self):
        same(self, show_cords(([], [])), "- | -")
        same(self, show_cords(((), [])), "- | -")
        same(self, show_cords(([(0, 2, 7)], ())), "0-2*7 | -")
        same(self, show_cords(([], [(0, 2, 7), (0, 13, 10)])), "- | 0-2*7 0-13*10")
        same(self, show_cords((((1, 4, 1), (2, 4, 3)), [(0, 3, 5)])), "1-4*1 2-4*3 | 0-3*5")
        same(self, read_cords(3, "1-4*1 2-4*3 | 0-3*5"), ([(1, 4, 1), (2, 4, 3)], [(0, 3, 5)]))

    def test_shown_and_read_again(self):
        chance = seeded(257)
        kinds = set()
        for size in range(1, 13):
            one = [(0, 2, 10 ** 999)], []
            for cords in [cords_of(size, drawn(chance, size, most)) for most in (1, 2, MOST)] + [one, one[::-1], ([], [])]:
                text = show_cords(cords=cords)
                halves = [" ".join(f"{low}-{high}*{many}" for low, high, many in row) or "-" for row in cords]
                same(self, text, " | ".join(halves))
                told = read_cords(size=size, text=text)
                self.assertEqual([type(told)] + [type(row) for row in told], [tuple, list, list])
                same(self, told, cords)
                same(self, show_cords(tuple(map(tuple, cords))), text)
                kinds.add(tuple(min(len(row), 2) for row in cords))
            told[0].append(None)
            same(self, read_cords(size, "- | -"), ([], []))
        self.assertTrue({(2, 2), (1, 0), (0, 1), (0, 0)} <= kinds)

    def test_spoilt(self):
        chance = seeded(258)
        read = 0
        for size in (1, 2, 3, 7, 12):
            for most in (1, 20):
                text = show_cords(cords_of(size, drawn(chance, size, most)))
                self.assertIsNotNone(second_cords(size, text))
                for other in spoilt(text, chance):
                    told = second_cords(size, other)
                    if told is None:
                        same(self, refusal(self, NoText, read_cords, size, other).asked, other)
                    else:
                        same(self, read_cords(size, other), told)
                        same(self, show_cords(told), other)
                        read += 1
        self.assertGreater(read, 50)

    def test_no_text(self):
        bad = [
            "0-2*1", "0-2*1 | - | -", "0-2*1 1-3*1 | -", "- | 0-2*1 0-2*2", "0-3*1 0-2*1 | -", "0-1*1 | -", "0-5*1 | -", "2-0*1 | -",
            "2-2*1 | -", "0-6*1 | -", "0-2*0 | -", "0-2*-1 | -", "-1-2*1 | -", "0--2*1 | -", "00-2*1 | -", "0-02*1 | -", "0-2*01 | -",
            "0-2 | -", "0*2-1 | -", "0-2*1  | -", " | ", "0-2*1 |-", "0-2*1| -", "0-2*1|-", "0-2*1 - | -", "- 0-2*1 | -", "- - | -",
            "0-2*1,0-3*1 | -", "0-2*1  0-3*1 | -", "0-2*1\n | -", "0-2*1*1 | -", "0-2-4*1 | -", "0 - 2 * 1 | -", "none", "none | none",
            "+0-2*1 | -", "0-2*1" + "0" * 1000 + " | -", "0-2*1" + "0" * 5000 + " | -", "posts 3", "0,0,0/0,0,0", "0 0 1", "- | -- | -",
        ]
        for thing in bad + NO_TEXTS:
            same(self, refusal(self, NoText, read_cords, 3, thing).asked, thing)
        same(self, read_cords(3, "0-2*1" + "0" * 999 + " | -"), ([(0, 2, 10 ** 999)], []))

    def test_behind_no_web(self):
        for size in [0, 13, -1, [3], "3"] + [thing for thing in THINGS if type(thing) is not int]:
            for thing in ("- | -", None, 3, "0-1*1 | -"):
                same(self, refusal(self, NoWeb, read_cords, size, thing).part, "size")

    def test_another_rows(self):
        text = "0-13*1 | -"
        same(self, read_cords(12, text), ([(0, 13, 1)], []))
        # Neighbours in the ring of eleven posts, and beyond those of fewer.
        for size in range(1, 12):
            same(self, refusal(self, NoText, read_cords, size, text).asked, text)


class TestAnotherSort(unittest.TestCase):

    def test_each_text_is_of_one_sort(self):
        web = row_web(2)
        texts = {
            "web": (show_web(web), show_web(Web(1, []))), "standing": (show_standing(((1, 2), (3, -4))), "0,0/0,0"),
            "debts": ("none", "0 0 1", "0 0 1; 0 1 2"), "cords": ("- | -", "0-2*3 | -", "0-2*3 0-3*1 | 1-4*2"),
        }
        reads = {
            "web": read_web, "standing": lambda text: read_standing(web, text), "debts": lambda text: read_debts(web, text),
            "cords": lambda text: read_cords(2, text),
        }
        for sort, lines in texts.items():
            for other, ask in reads.items():
                for text in lines:
                    if sort == other:
                        self.assertIsNotNone(ask(text))
                    else:
                        same(self, refusal(self, NoText, ask, text).asked, text)


if __name__ == "__main__":
    unittest.main()
