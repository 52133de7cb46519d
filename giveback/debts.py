"""Debts: what of a standing is owed in a round, and the standing that some debts make."""

from giveback.beats import nought_on, plus, run_on, turned_about
from giveback.errors import NoBeats, NoDebts
from giveback.kinds import need_all
from giveback.shapes import home_of
from giveback.webs import lots_of, need_post, need_standing, part_around
from giveback.wholes import is_between, is_whole_row


def debts_of(web, standing):
    """A list of the debts (beat, post, owed) of a standing, rising."""
    need_standing(web, standing)
    need_all(web)
    found = []
    for part in web.parts():
        for beat, now in enumerate(round_of(web, part, standing)):
            found.extend([(beat, post, -now[post]) for post in part if now[post] < 0])
    return sorted(found)


def single(web, beat, post):
    """The standing of a single debt, of this post at this beat."""
    need_all(web)
    need_post(web, post)
    if not is_between(beat, 0, len_of_round(web, part_around(web, post)) - 1):
        raise NoBeats(beat)
    return single_standing(web, beat, post)


def standing_of(web, debts):
    """The standing that has just these debts."""
    need_all(web)
    fault = debts_fault(web, debts)
    if fault is not None:
        one, other = fault
        raise NoDebts(one, other)
    return sum_of_singles(web, debts)


def together(web, one, other):
    """Whether two standings go together."""
    need_standing(web, one)
    need_standing(web, other)
    need_all(web)
    for part in web.parts():
        if are_opposed(round_of(web, part, one), round_of(web, part, other)):
            return False
    return True


def round_of(web, part, standing):
    """A list of what all posts have, at each beat from 0 to less than a part's home's.

    Behind these beats the part's posts have, in every standing, what others of them have in this round.
    """
    return [now for _, now in run_on(web, standing, len_of_round(web, part) - 1)]


def len_of_round(web, part):
    """How many beats a part's home has."""
    beats, _ = home_of(web, part)
    return beats


def places_of(web, part, half):
    """A list of the (beat, post) of the single debts of a part's half, rising."""
    lots = lots_of(web, part)
    return [(beat, post) for beat in range(len_of_round(web, part)) for post in lots[(half + beat) % 2]]


def single_standing(web, beat, post):
    """The standing behind so many beats of which the post has -1, and all else is nought."""
    here = nought_on(web)[0], tuple([-int(other == post) for other in range(len(web))])
    return turned_about(run_on(web, turned_about(here), beat)[-1])


def sum_of_singles(web, debts):
    """The sum of the standings of these debts' singles, each so often as is owed."""
    standing = nought_on(web)
    for beat, post, owed in debts:
        standing = plus(standing, single_standing(web, beat, post), owed)
    return standing


def are_opposed(one, other):
    """Whether in two such rounds some post at some beat has more than nought in the one and less in the other."""
    for row, beside in zip(one, other):
        if any([low * high < 0 for low, high in zip(row, beside)]):
            return True
    return False


def debts_fault(web, debts):
    """(one, other): the places of what is wrong with debts of a web of the kind all, None where nothing is."""
    if not isinstance(debts, (list, tuple)):
        return None, None
    around = {post: part for part in web.parts() for post in part}
    beats = {post: len_of_round(web, around[post]) for post in around}
    for at, debt in enumerate(debts):
        if not is_debt(beats, debt):
            return at, None
    rounds = {}
    for beat, post, _ in debts:
        if (beat, post) not in rounds:
            rounds[(beat, post)] = round_of(web, around[post], single_standing(web, beat, post))
    for one in range(len(debts)):
        for other in range(one + 1, len(debts)):
            if not go_together(rounds, debts[one][:2], debts[other][:2]):
                return one, other
    return None


def is_debt(beats, thing):
    """Whether thing is a debt, of posts with so many beats in their rounds."""
    if not is_whole_row(thing, 3):
        return False
    beat, post, owed = thing
    return post in beats and 0 <= beat < beats[post] and owed >= 1


def go_together(rounds, one, other):
    """Whether the single debts of two (beat, post) go together, told each one's round."""
    return one != other and not are_opposed(rounds[one], rounds[other])
