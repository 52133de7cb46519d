"""Sights: what was seen of a standing in a round, and which standings show it.

Standings are gone half by half. A half's debts go together, so at no place has one of them more than nought and
another one less: the half owes there just where one of them does, has just where one of them has, else has nought.
"""

from giveback.beats import nought_on, plus
from giveback.cases import need_told_cases
from giveback.debts import len_of_round, places_of, round_of, single_standing
from giveback.errors import NoSight
from giveback.kinds import need_all
from giveback.webs import need_standing
from giveback.wholes import is_between

WORDS = ("owes", "has", "nought")


class Half:
    """A half of a part: what each of its single debts has at each (beat, post) of the half, and what goes together."""

    def __init__(self, web, posts, half):
        self.posts = tuple(posts)
        self.number = half
        self.numbers = numbers_of(web, posts, half)
        self.mates = {debt: mates_of(self.numbers, debt) for debt in self.numbers}


def shows_all(web, standing, sights):
    """Whether a standing shows all sights."""
    need_standing(web, standing)
    need_sights(web, sights)
    for part in web.parts():
        run = round_of(web, part, standing)
        if not all([is_so(word, run[beat][post]) for beat, post, word in sights if post in part]):
            return False
    return True


def showing(web, sights):
    """Which standings show all sights: a list of (posts, half, cases) for each half of each part."""
    return [(half.posts, half.number, cases_showing(half, sights)) for half in seen_halves(web, sights)]


def first_shown(web, sights):
    """A standing that shows all sights, None where none does."""
    standing = nought_on(web)
    for half in seen_halves(web, sights):
        debts = debts_showing(half, sights)
        if debts is None:
            return None
        for beat, post in debts:
            standing = plus(standing, single_standing(web, beat, post), 1)
    return standing


def blame(web, sights):
    """The places of sights that no standing shows all of, none of which can be left out; None where some does."""
    halves = seen_halves(web, sights)
    if are_shown(halves, sights):
        return None
    left = list(range(len(sights)))
    for place in reversed(range(len(sights))):
        fewer = [other for other in left if other != place]
        if not are_shown(halves, [sights[other] for other in fewer]):
            left = fewer
    return left


def need_sights(web, sights):
    """Refuse what are no sights of a web, behind a web that isn't of the kind all."""
    need_all(web)
    if not isinstance(sights, (list, tuple)):
        raise NoSight(None)
    beats = {post: len_of_round(web, part) for part in web.parts() for post in part}
    for number, sight in enumerate(sights):
        if not is_sight(beats, sight):
            raise NoSight(number)


def is_sight(beats, thing):
    """Whether thing is a sight, of posts with so many beats in their rounds."""
    if not isinstance(thing, tuple) or len(thing) != 3:
        return False
    beat, post, word = thing
    if not is_between(post, 0, len(beats) - 1) or not is_between(beat, 0, beats[post] - 1):
        return False
    return word in WORDS


def is_so(word, number):
    """Whether a number is such as a sight's word tells."""
    if word == "owes":
        return number < 0
    if word == "has":
        return number > 0
    return number == 0


def seen_halves(web, sights):
    """A list of the halves of each part, half 0 first; refuses sights, then parts whose trees aren't told."""
    need_sights(web, sights)
    parts = web.parts()
    for part in parts:
        need_told_cases(web, part)
    return [Half(web, part, half) for part in parts for half in range(2)]


def numbers_of(web, posts, half):
    """By each single debt (beat, post) of a half, what it has at each (beat, post) of the half."""
    places = places_of(web, posts, half)
    numbers = {}
    for beat, post in places:
        run = round_of(web, posts, single_standing(web, beat, post))
        numbers[(beat, post)] = {(at, other): run[at][other] for at, other in places}
    return numbers


def mates_of(numbers, debt):
    """A list of the single debts that go together with this one, and itself."""
    own = numbers[debt]
    return [other for other in numbers if not any([own[place] * numbers[other][place] < 0 for place in own])]


def cases_showing(half, sights):
    """A list of the cases (places, musts) in which a half shows all its sights: one, or none."""
    places, musts = case_of(half, sights)
    if chosen_debts(half, places, musts) is None:
        return []
    return [(tuple(places), tuple([tuple(must) for must in musts]))]


def case_of(half, sights):
    """(places, musts): the half shows its sights just where it owes at these places alone, some of each must."""
    here = [sight for sight in sights if sight[:2] in half.numbers]
    places = list(half.numbers)
    for beat, post, word in here:
        if word == "nought":
            places = [debt for debt in places if half.numbers[debt][(beat, post)] == 0]
    musts = []
    for beat, post, word in here:
        must = [debt for debt in places if is_so(word, half.numbers[debt][(beat, post)])]
        if word != "nought" and must not in musts:
            musts.append(must)
    return places, musts


def debts_showing(half, sights):
    """A list of debts that go together, by which a half shows all its sights; None where there are none."""
    places, musts = case_of(half, sights)
    return chosen_debts(half, places, musts)


def chosen_debts(half, places, musts):
    """A list of debts at these places that go together, some of each must; None where there are none."""
    if musts == []:
        return []
    choices = [[debt for debt in must if debt in places] for must in musts]
    # Where there are fewest choices it is soonest seen that none will do.
    for debt in min(choices, key=len):
        left = [must for must in musts if debt not in must]
        chosen = chosen_debts(half, [other for other in places if other in half.mates[debt]], left)
        if chosen is not None:
            return [debt] + chosen
    return None


def are_shown(halves, sights):
    """Whether some standing shows all sights, told all halves."""
    return all([debts_showing(half, sights) is not None for half in halves])
