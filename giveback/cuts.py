"""The fewest ties without which all of a web comes back, and papers that fewer won't do."""

from itertools import combinations

from giveback.changes import among, is_tied_pair, without
from giveback.errors import TooMany
from giveback.kinds import are_weights, cord_rows, gaps_of, kinds_of
from giveback.wholes import is_between

MOST_TIES = 10


def fewest_cuts(web):
    """A list of the fewest ties (one, other), rising, without which the web is of the kind all."""
    need_few_ties(web)
    many = 0
    # Without any tie each post is a part of the kind all: so some lot is such a one.
    while True:
        for cuts in tie_lots(web, many):
            if is_all_without(web, cuts):
                return list(cuts)
        many += 1


def cut_paper(web):
    """A paper that fewer cuts won't do: (ties, posts, weights) for each lot of ties one fewer."""
    many = len(fewest_cuts(web))
    if many == 0:
        return []
    return [cut_row(web, cuts) for cuts in tie_lots(web, many - 1)]


def shows_cuts(web, told, thing):
    """Whether told are cuts that make the web of the kind all, and thing a paper that fewer won't do."""
    need_few_ties(web)
    if not are_cuts(web, told) or not is_all_without(web, told):
        return False
    lots = tie_lots(web, len(told) - 1) if len(told) > 0 else []
    if not isinstance(thing, (list, tuple)) or len(thing) != len(lots):
        return False
    return all([is_cut_row(web, cuts, row) for cuts, row in zip(lots, thing)])


def need_few_ties(web):
    """Refuse a web of more ties than all lots of them are gone through."""
    if len(web.ties()) > MOST_TIES:
        raise TooMany(len(web.ties()))


def tie_lots(web, many):
    """A list of all lots of so many ties, tuples of (one, other), rising."""
    pairs = [(one, other) for one, other, _, _ in web.ties()]
    return list(combinations(pairs, many))


def is_all_without(web, cuts):
    """Whether each part of the web without these ties is of the kind all."""
    return all([word == "all" for _, word, _ in kinds_of(without(web, cuts))])


def cut_row(web, cuts):
    """The row of the paper for these ties: without them, these posts still don't all come back."""
    kinds = kinds_of(without(web, cuts))
    return [(cuts, posts, weights) for posts, word, weights in kinds if word != "all"][0]


def are_cuts(web, thing):
    """Whether thing is a rising list of unlike ties (one, other) of the web."""
    if not isinstance(thing, (list, tuple)) or not all([is_tied_pair(web, pair) for pair in thing]):
        return False
    return is_rising(thing)


def is_rising(things):
    """Whether each of the things, which can be compared, is above the one ahead of it."""
    return all([one < other for one, other in zip(things, things[1:])])


def is_cut_row(web, cuts, thing):
    """Whether thing is a row of the paper for these ties."""
    if not isinstance(thing, tuple) or len(thing) != 3:
        return False
    ties, posts, weights = thing
    if not isinstance(ties, tuple) or not all([is_tied_pair(web, pair) for pair in ties]) or ties != cuts:
        return False
    if not are_some_posts(web, posts) or not are_weights(len(posts), weights):
        return False
    left = among(without(web, cuts), posts)
    parts = left.parts()
    return len(parts) == 1 and min(gaps_of(cord_rows(left, parts[0]), weights)) >= 0


def are_some_posts(web, thing):
    """Whether thing is a tuple of posts of the web, one and more, rising."""
    if not isinstance(thing, tuple) or len(thing) == 0:
        return False
    return all([is_between(post, 0, len(web) - 1) for post in thing]) and is_rising(thing)
