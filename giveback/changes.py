"""Webs made of webs, and their standings: renamed, beside one another, without some ties, a part alone."""

from giveback.errors import NoTie
from giveback.webs import Web, need_part, need_standing
from giveback.wholes import is_whole_row


def renamed(web, order):
    """The web in which post k is called order[k]."""
    ties = []
    for one, other, there, back in web.ties():
        ties.append(tie_of(order[one], order[other], there, back))
    return Web(len(web), ties)


def beside(one, other):
    """The web of both webs, the second one's posts numbered on behind the first one's."""
    size = len(one)
    moved = [(low + size, high + size, there, back) for low, high, there, back in other.ties()]
    return Web(size + len(other), one.ties() + moved)


def without(web, pairs):
    """The web without the ties of these pairs (one, other)."""
    if not isinstance(pairs, (list, tuple)):
        raise NoTie(None)
    for pair in pairs:
        if not is_tied_pair(web, pair):
            raise NoTie(pair)
    return Web(len(web), [tie for tie in web.ties() if (tie[0], tie[1]) not in pairs])


def alone(web, posts):
    """The web of one part, its posts numbered from 0."""
    need_part(web, posts)
    return among(web, posts)


def renamed_standing(web, standing, order):
    """The same standing on the renamed web."""
    need_standing(web, standing)
    old, now = standing
    places = {post: place for place, post in enumerate(order)}
    rising = [places[post] for post in range(len(web))]
    return picked(old, rising), picked(now, rising)


def beside_standing(one, standing, other, more):
    """The first web's standing and the second one's as one standing of both webs beside one another."""
    need_standing(one, standing)
    need_standing(other, more)
    # Refuses more posts than a web has.
    beside(one, other)
    return standing[0] + more[0], standing[1] + more[1]


def alone_standing(web, standing, posts):
    """What stands on one part, as a standing of this part alone."""
    need_standing(web, standing)
    need_part(web, posts)
    old, now = standing
    return picked(old, posts), picked(now, posts)


def among(web, posts):
    """The web of some posts, rising, numbered from 0, and of the ties among them."""
    places = {post: place for place, post in enumerate(posts)}
    ties = [tie for tie in web.ties() if tie[0] in places and tie[1] in places]
    return Web(len(posts), [(places[one], places[other], there, back) for one, other, there, back in ties])


def tie_of(one, other, there, back):
    """The tie by which so many cords lead from one to other, and so many back, whichever is less."""
    if one < other:
        return one, other, there, back
    return other, one, back, there


def is_tied_pair(web, thing):
    """Whether thing is a pair (one, other), one less than other, that is tied."""
    return is_whole_row(thing, 2) and thing in [(tie[0], tie[1]) for tie in web.ties()]


def picked(numbers, places):
    """A tuple of the numbers at these places, in their order."""
    return tuple([numbers[place] for place in places])
