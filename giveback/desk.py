"""A desk that answers rows about a works of four posts."""

from giveback.debts import debts_of
from giveback.errors import NoAsk
from giveback.shapes import home_beats
from giveback.texts import show_debts, show_standing, words_of
from giveback.webs import MOST_CORDS, Web
from giveback.wholes import is_between
from giveback.works import Works

POSTS = 4
GREATEST = 10 ** 18
# By the word of a row that does something, what each of its numbers is.
DEEDS = {
    "put": ("post", "number"),
    "tie": ("post", "post", "cords", "cords"),
    "cut": ("post", "post"),
    "beats": ("number",),
    "undo": (),
}
ASKS = ("standing", "kinds", "back", "home", "debts")


class Desk:
    """A works of four posts without ties at first, asked by rows."""

    def __init__(self):
        self._works = Works(Web(POSTS, []))

    def say(self, row):
        """The answer to a row, a text."""
        if not isinstance(row, str):
            raise NoAsk(row)
        if row in ASKS:
            return answer_of(self._works, row)
        word = row.split(" ")[0]
        numbers = words_of(word, row)
        if word not in DEEDS or numbers is None or not are_fitting(DEEDS[word], numbers):
            raise NoAsk(row)
        do(self._works, word, numbers)
        return "ok"


def are_fitting(names, numbers):
    """Whether there are as many numbers as names, each such as its name tells."""
    return len(numbers) == len(names) and all([fits(name, number) for name, number in zip(names, numbers)])


def fits(name, number):
    """Whether a number of a row is such as its name tells."""
    if name == "post":
        return is_between(number, 0, POSTS - 1)
    if name == "cords":
        return is_between(number, 1, MOST_CORDS)
    return is_between(number, -GREATEST, GREATEST)


def do(works, word, numbers):
    """Do what the word of a row says with its numbers."""
    if word == "put":
        post, number = numbers
        works.put(post, number)
    elif word == "tie":
        one, other, there, back = numbers
        works.bind(one, other, there, back)
    elif word == "cut":
        one, other = numbers
        works.cut(one, other)
    elif word == "beats":
        works.go(numbers[0])
    else:
        works.undo()


def answer_of(works, word):
    """What is told to a word that asks."""
    if word == "standing":
        return show_standing(works.standing())
    if word == "kinds":
        return "; ".join([kind_text(posts, kind) for posts, kind, _ in works.kinds()])
    if word == "back":
        return back_text(works.comes_back())
    if word == "home":
        return str(home_beats(works.web()))
    return show_debts(debts_of(works.web(), works.standing()))


def kind_text(posts, word):
    """The text of a part's posts and the word of its kind."""
    named = ",".join([str(post) for post in posts])
    return f"{named} {word}"


def back_text(beats):
    """The text of the number of beats behind which a standing is there again, if there is one."""
    if beats is None:
        return "never"
    return str(beats)
