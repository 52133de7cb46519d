"""Texts of webs, standings, debts and cords, and what is read of them."""

from giveback.debts import debts_fault
from giveback.errors import NoText
from giveback.kinds import need_all
from giveback.rings import cords_fault
from giveback.webs import MOST_POSTS, Web, are_ties, need_size, standing_fault
from giveback.wholes import is_between

FIGURES = "0123456789"
MOST_FIGURES = 1000


def show_web(web):
    """The text of a web: its posts, and a row for each tie."""
    rows = [f"posts {len(web)}"]
    for one, other, there, back in web.ties():
        rows.append(f"tie {one} {other} {there} {back}")
    return "\n".join(rows)


def show_standing(standing):
    """The text of a standing: what each post had, and what it has."""
    return "/".join([",".join([str(number) for number in row]) for row in standing])


def show_debts(debts):
    """The text of debts."""
    if len(debts) == 0:
        return "none"
    return "; ".join([f"{beat} {post} {owed}" for beat, post, owed in debts])


def show_cords(cords):
    """The text of a row's cords, half 0 ahead of half 1."""
    return " | ".join([half_text(row) for row in cords])


def read_web(text):
    """The web that the text is of."""
    need_text(text)
    first, *rows = text.split("\n")
    sizes = words_of("posts", first)
    ties = [words_of("tie", row) for row in rows]
    if sizes is None or len(sizes) != 1 or not is_between(sizes[0], 1, MOST_POSTS):
        raise NoText(text)
    if not are_ties(sizes[0], ties) or ties != sorted(ties):
        raise NoText(text)
    return Web(sizes[0], ties)


def read_standing(web, text):
    """The standing of the web that the text is of."""
    need_text(text)
    standing = tuple([numbers_of(row.split(",")) for row in text.split("/")])
    if standing_fault(web, standing) is not None:
        raise NoText(text)
    return standing


def read_debts(web, text):
    """The debts, of a web of the kind all, that the text is of."""
    need_all(web)
    need_text(text)
    debts = [numbers_of(row.split(" ")) for row in text.split("; ")] if text != "none" else []
    if debts_fault(web, debts) is not None or debts != sorted(debts):
        raise NoText(text)
    return debts


def read_cords(size, text):
    """The cords of a row of so many posts that the text is of."""
    need_size(size)
    need_text(text)
    cords = tuple([half_of(half) for half in text.split(" | ")])
    if cords_fault(size, cords) is not None or any([row != sorted(row) for row in cords]):
        raise NoText(text)
    return cords


def half_text(row):
    """The text of the cords of one half."""
    if len(row) == 0:
        return "-"
    return " ".join([f"{low}-{high}*{many}" for low, high, many in row])


def half_of(text):
    """A list of the cords of one half that the text is of, None in place of what is no cord."""
    if text == "-":
        return []
    return [cord_of(word) for word in text.split(" ")]


def cord_of(word):
    """The numbers (low, high, many) that the word is of, None where it is of none."""
    low, _, rest = word.partition("-")
    high, _, many = rest.partition("*")
    return numbers_of([low, high, many])


def need_text(thing):
    """Refuse what isn't even a text."""
    if not isinstance(thing, str):
        raise NoText(thing)


def words_of(word, row):
    """A tuple of the numbers behind the word that the row begins with, None where it isn't so."""
    first, *rest = row.split(" ")
    if first != word:
        return None
    return numbers_of(rest)


def numbers_of(words):
    """A tuple of the numbers that the words are of, None where one is of none."""
    numbers = [number_of(word) for word in words]
    if None in numbers:
        return None
    return tuple(numbers)


def number_of(word):
    """The number that the word is of, None where it is of none."""
    figures = word[1:] if word.startswith("-") else word
    if figures == "" or len(figures) > MOST_FIGURES or not all([sign in FIGURES for sign in figures]):
        return None
    if figures.startswith("0") and word != "0":
        return None
    return int(word)
