"""[71] A desk: its rows beside the calls of a works of four posts, and what is no row."""

import unittest

from giveback.debts import debts_of
from giveback.desk import Desk
from giveback.errors import Full, NoAsk, NoDeed, NotAll, NoTie, TooGreat
from giveback.shapes import home_beats
from giveback.texts import read_debts, read_standing
from giveback.webs import Web
from giveback.works import Works
from helping import THINGS, refusal, same, seeded

FAR = 10 ** 18
ASKS = ("standing", "kinds", "back", "home", "debts")


def answers(works):
    """What a desk of this works answers to each row that asks, None where it refuses."""
    old, now = works.standing()
    back = works.comes_back()
    kinds = works.kinds()
    found = {
        "standing": "/".join(",".join(str(n) for n in row) for row in (old, now)),
        "kinds": "; ".join(",".join(str(post) for post in posts) + " " + word for posts, word, _ in kinds),
        "back": "never" if back is None else str(back), "home": None, "debts": None,
    }
    if all(word == "all" for _, word, _ in kinds):
        debts = debts_of(works.web(), (old, now))
        found["home"] = str(home_beats(works.web()))
        found["debts"] = "; ".join(f"{beat} {post} {owed}" for beat, post, owed in debts) or "none"
    return found


def drawn_row(chance):
    """(row, method, what is handed in) of a deed, drawn."""
    word = chance.choice(("put", "put", "tie", "tie", "cut", "beats", "undo"))
    post, other = chance.randrange(4), chance.randrange(4)
    if word == "put":
        number = chance.choice((0, -1, 1, chance.randint(-99, 99), FAR, -FAR))
        return f"put {post} {number}", "put", (post, number)
    if word == "tie":
        there, back = chance.choice(((1, 1), (1, 1), (1, 2), (2, 2), (9, 9)))
        return f"tie {post} {other} {there} {back}", "bind", (post, other, there, back)
    if word == "cut":
        return f"cut {post} {other}", "cut", (post, other)
    if word == "undo":
        return "undo", "undo", ()
    beats = chance.choice((0, 1, -1, 5, -7, FAR, -FAR))
    return f"beats {beats}", "go", (beats,)


class TestDesk(unittest.TestCase):

    def look_at(self, desk, works):
        """Each row that asks, beside the works; the refusals are those of the stages."""
        for row, wanted in answers(works).items():
            if wanted is None:
                wrong = next(posts for posts, word, _ in works.kinds() if word != "all")
                same(self, refusal(self, NotAll, desk.say, row).posts, wrong)
            else:
                same(self, desk.say(row), wanted)
                same(self, desk.say(row=row), wanted)

    def test_beside_a_works(self):
        chance = seeded(260)
        done, kinds = {}, set()
        for _ in range(80):
            desk, works = Desk(), Works(Web(4, []))
            for _ in range(15):
                row, method, handed = drawn_row(chance)
                try:
                    getattr(works, method)(*handed)
                except (NoTie, NoDeed, TooGreat, Full) as wanted:
                    error = refusal(self, type(wanted), desk.say, row)
                    same(self, vars(error), vars(wanted))
                    done[type(wanted).__name__] = done.get(type(wanted).__name__, 0) + 1
                else:
                    same(self, desk.say(row), "ok")
                    done[method] = done.get(method, 0) + 1
                self.look_at(desk, works)
                kinds |= {word for _, word, _ in works.kinds()}
        same(self, sorted(kinds), ["all", "none", "waves"])
        for name in ("put", "bind", "cut", "go", "undo", "NoTie", "NoDeed", "TooGreat"):
            self.assertGreater(done.get(name, 0), 5, name)

    def test_by_hand(self):
        desk = Desk()
        same(self, [desk.say(row) for row in ASKS], ["0,0,0,0/0,0,0,0", "0 all; 1 all; 2 all; 3 all", "1", "4", "none"])
        for row in ("put 1 -3", "put 3 5", "tie 2 1 1 1", "beats 1"):
            same(self, desk.say(row), "ok")
        wanted = ["0,-3,0,5/0,0,0,0", "0 all; 1,2 all; 3 all", "20", "20", "1 3 5; 4 2 3"]
        same(self, [desk.say(row) for row in ASKS], wanted)
        for row in ("tie 0 3 2 2", "put 0 -1"):
            same(self, desk.say(row), "ok")
        same(self, [desk.say(row) for row in ASKS[:3]], ["0,-3,0,5/-1,0,0,0", "0,3 waves; 1,2 all", "never"])
        for row in ("home", "debts"):
            same(self, refusal(self, NotAll, desk.say, row).posts, (0, 3))
        for row in ("undo", "cut 3 0", "beats -1"):
            same(self, desk.say(row), "ok")
        same(self, desk.say("standing"), "0,0,0,0/0,-3,0,5")

    def test_texts_are_read_again(self):
        desk = Desk()
        for row in ("tie 0 2 1 1", "tie 2 3 1 2", f"put 0 {FAR}", f"put 2 -{FAR}", "beats 3", f"put 1 {-FAR}"):
            same(self, desk.say(row), "ok")
        web = Web(4, [(0, 2, 1, 1), (2, 3, 1, 2)])
        standing = read_standing(web, desk.say("standing"))
        same(self, read_debts(web, desk.say("debts")), debts_of(web, standing))

    def test_greatest_numbers(self):
        desk = Desk()
        for number in (FAR, -FAR):
            same(self, desk.say(f"put 0 {number}"), "ok")
            same(self, desk.say(f"beats {number}"), "ok")
            for more in (number + number // FAR, 10 * number):
                for word in ("put 0", "beats"):
                    row = f"{word} {more}"
                    same(self, refusal(self, NoAsk, desk.say, row).asked, row)

    def test_refused_as_the_works_refuses(self):
        desk = Desk()
        refusal(self, NoDeed, desk.say, "undo")
        for one in range(4):
            same(self, refusal(self, NoTie, desk.say, f"tie {one} {one} 1 1").tie, (one, one))
            same(self, refusal(self, NoTie, desk.say, f"cut {one} {one}").tie, (one, one))
        same(self, desk.say("tie 3 1 9 9"), "ok")
        for one, other in ((1, 3), (3, 1)):
            same(self, refusal(self, NoTie, desk.say, f"tie {one} {other} 1 1").tie, (one, other))
        same(self, refusal(self, NoTie, desk.say, "cut 0 1").tie, (0, 1))
        same(self, desk.say("put 1 1"), "ok")
        great = refusal(self, TooGreat, desk.say, f"beats {FAR}").beats
        same(self, refusal(self, Full, desk.say, f"beats {great - 1}").beats, great - 1)
        same(self, refusal(self, TooGreat, desk.say, f"beats -{FAR}").beats > 100, True)
        same(self, desk.say("standing"), "0,0,0,0/0,1,0,0")
        for row in ("undo", "undo"):
            same(self, desk.say(row), "ok")
        refusal(self, NoDeed, desk.say, "undo")

    def test_two_desks(self):
        one, other = Desk(), Desk()
        same(self, (one.say("put 0 1"), one.say("tie 0 1 1 1")), ("ok", "ok"))
        same(self, (other.say("standing"), other.say("kinds")), ("0,0,0,0/0,0,0,0", "0 all; 1 all; 2 all; 3 all"))
        refusal(self, NoDeed, other.say, "undo")
        same(self, one.say("standing"), "0,0,0,0/1,0,0,0")
        same(self, Desk().say("kinds"), "0 all; 1 all; 2 all; 3 all")


class TestNoAsk(unittest.TestCase):

    def setUp(self):
        self.desk = Desk()
        for row in ("put 0 7", "tie 0 1 1 1", "beats 2"):
            self.desk.say(row)
        self.before = [self.desk.say(row) for row in ASKS]

    def refused(self, row):
        same(self, refusal(self, NoAsk, self.desk.say, row).asked, row)
        same(self, [self.desk.say(ask) for ask in ASKS], self.before)

    def test_spoilt_rows(self):
        good = ["put 0 5", "put 3 -5", "tie 0 2 1 1", "cut 0 1", "beats 4", "undo"] + list(ASKS)
        for row in good:
            words = row.split(" ")
            bad = [row + " ", " " + row, row + " 1", row + " x", row + "\n", "\n" + row, row.upper(), row + "s", row[1:], row[:-1]]
            bad += [row.replace(" ", "  "), row.replace(" ", ","), row.replace(" ", "\n"), row + ";", row + "; " + row, row + " " + row]
            bad += [" ".join(words[:-1]), "\t" + row, row.replace(" ", "\t"), [row], (row,), words, {row: row}, {"row": row}]
            for thing in bad:
                if thing not in good:
                    self.refused(thing)
        for row in ("put", "put 0", "tie", "tie 0 1 1", "cut", "cut 0", "beats", "beats ", "put 0 ", "tie 0 2 1 "):
            self.refused(row)

    def test_wrong_numbers(self):
        posts = ["4", "5", "12", "-1", "00", "01", "+0", "-0", "0.0", "x", "", "None", "True", "0_0", "1e0", "\u0661", "\u00b2"]
        cords = ["0", "10", "-1", "01", "+1", "1.0", "x", "", "99"]
        great = [str(FAR + 1), str(-FAR - 1), "0" + str(FAR), "1" + "0" * 999, "1" + "0" * 5000, "-0", "+1", "01", "-01", "--1", "1,0"]
        great += ["1_0", "1 0", "1.0", "x", "", "-", "0x1", "ten", "\u0661", "1\n", "\n1"]
        for bad in posts:
            rows = [f"put {bad} 1", f"tie {bad} 2 1 1", f"tie 2 {bad} 1 1", f"cut {bad} 1", f"cut 0 {bad}"]
            for row in rows:
                self.refused(row)
        for bad in cords:
            for row in (f"tie 0 2 {bad} 1", f"tie 0 2 1 {bad}", f"tie 2 0 {bad} {bad}"):
                self.refused(row)
        for bad in great:
            for row in (f"put 0 {bad}", f"beats {bad}"):
                self.refused(row)
        # What is no row is told ahead of what the works would refuse.
        for row in ("tie 0 1 1 10", "tie 0 0 0 1", "cut 0 4", "cut 2 2 2", "tie 0 1 1"):
            self.refused(row)

    def test_other_words(self):
        words = ["", " ", "go 1", "bind 0 2 1 1", "help", "None", "ok", "Put 0 1", "PUT 0 1", "puts 0 1", "put0 1", "beat 1", "deeds"]
        words += ["web", "len", "redo", "undo 1", "standing 0", "kinds 0", "back 1", "home 0", "debts 0", "never", "all", "0", "1 0 put"]
        for thing in words + THINGS + [b"undo", 1, ["undo"], ("put", 0, 1)]:
            self.refused(thing)

    def test_a_sign_otherwise(self):
        chance = seeded(261)
        # Rows that are refused, whatever they say, when one sign is otherwise than in any row.
        for row in ("put 0 5", "tie 0 2 1 1", "cut 0 1", "beats -4", "undo", "standing", "kinds", "back", "home", "debts"):
            for at in range(len(row) + 1):
                for sign in chance.sample(",;:./_*+~!aZ\n", 5):
                    self.refused(row[:at] + sign + row[at:])
                    if at < len(row):
                        self.refused(row[:at] + sign + row[at + 1:])


if __name__ == "__main__":
    unittest.main()
