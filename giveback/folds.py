"""Webs folded by lots of posts that get alike, and standings folded to the lots and spread over them."""

from giveback.changes import picked
from giveback.errors import NoLots, NotAlike
from giveback.webs import Web, need_standing
from giveback.wholes import is_whole


def folded(web, lots):
    """The web of which each lot is a post."""
    need_lots(web, lots)
    ties = []
    for one in range(len(lots)):
        for other in range(one + 1, len(lots)):
            there = cords_to(web, lots[one], lots[other][0])
            back = cords_to(web, lots[other], lots[one][0])
            if there > 0:
                ties.append((one, other, there, back))
    return Web(len(lots), ties)


def folded_standing(web, lots, standing):
    """A standing that is alike within each lot, as one of the lots."""
    need_standing(web, standing)
    # Refuses what are no lots, and more cords than a web has.
    folded(web, lots)
    old, now = standing
    for lot in lots:
        for post in lot:
            if old[post] != old[lot[0]] or now[post] != now[lot[0]]:
                raise NotAlike(post)
    firsts = [lot[0] for lot in lots]
    return picked(old, firsts), picked(now, firsts)


def spread_standing(web, lots, standing):
    """A standing of the lots as one of their posts."""
    need_standing(folded(web, lots), standing)
    old, now = standing
    places = {post: place for place, lot in enumerate(lots) for post in lot}
    rising = [places[post] for post in range(len(web))]
    return picked(old, rising), picked(now, rising)


def need_lots(web, lots):
    """Refuse what are no lots of a web, and lots by which it can't be folded."""
    if not are_lots(web, lots):
        raise NoLots(None, None)
    for one in range(len(lots)):
        for other in range(len(lots)):
            led = [cords_to(web, lots[one], post) for post in lots[other]]
            wanted = 0 if one == other else led[0]
            if any([many != wanted for many in led]):
                raise NoLots(one, other)


def are_lots(web, thing):
    """Whether thing is a list of lists of one post and more that have each post once."""
    if not isinstance(thing, (list, tuple)):
        return False
    if not all([isinstance(lot, (list, tuple)) and len(lot) > 0 for lot in thing]):
        return False
    posts = [post for lot in thing for post in lot]
    return all([is_whole(post) for post in posts]) and sorted(posts) == list(range(len(web)))


def cords_to(web, lot, post):
    """How many cords lead from all of a lot together to a post."""
    return sum([web.cords(one, post) for one in lot])
