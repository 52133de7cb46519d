"""A look at case trees, whoever wrote them.

It goes the tree way by way. A sum is kept as how often each of the beginning's numbers is in it, by the part's posts.
"""

from giveback.cases import asks_of, gone_on
from giveback.kinds import need_all_part
from giveback.webs import need_part
from giveback.wholes import is_between, is_whole, is_whole_row


def shows_cases(web, posts, half, thing):
    """Whether thing is a case tree of a half of a part of the kind all."""
    need_part(web, posts)
    need_all_part(web, posts)
    if not is_tree(thing):
        return False
    asks = asks_of(web, posts, half)
    own = {post: tuple([int(other == post) for other in posts]) for post in posts}
    waiting = [(0, (0, own, [], []))]
    while waiting:
        number, way = waiting.pop()
        node = thing[number]
        if way[0] == len(asks):
            if node != ("back",) or way[1] != own:
                return False
        elif not is_answer(asks, way, node):
            return False
        else:
            waiting.extend(ways_behind(web, asks, way, node))
    return True


def is_tree(thing):
    """Whether thing is a list of nodes, each but the first of which is next of just one ahead of it."""
    if not isinstance(thing, (list, tuple)) or len(thing) == 0:
        return False
    if not all([is_node(node) for node in thing]):
        return False
    reached = []
    for number, node in enumerate(thing):
        if not all([is_between(behind, number + 1, len(thing) - 1) for behind in nodes_behind(node)]):
            return False
        reached.extend(nodes_behind(node))
    return sorted(reached) == list(range(1, len(thing)))


def is_node(thing):
    """Whether thing has the form of a node; which nodes come next isn't looked at yet."""
    if not isinstance(thing, tuple) or len(thing) == 0:
        return False
    word, *rest = thing
    if word == "back":
        return len(rest) == 0
    if word == "split":
        return len(rest) == 2
    if word not in ("above", "below") or len(rest) != 3:
        return False
    return is_whole(rest[0]) and rest[0] >= 1 and are_terms(rest[1])


def are_terms(thing):
    """Whether thing is a tuple of (number, times), numbers rising, times from 1 on."""
    if not isinstance(thing, tuple) or not all([is_term(term) for term in thing]):
        return False
    return all([one[0] < other[0] for one, other in zip(thing, thing[1:])])


def is_term(thing):
    """Whether thing is a pair (number, times) of whole numbers from 0 and from 1 on."""
    return is_whole_row(thing, 2) and thing[0] >= 0 and thing[1] >= 1


def nodes_behind(node):
    """A list of what a node tells as the nodes that come next."""
    if node[0] == "split":
        return [node[1], node[2]]
    return [node[3]] if node[0] in ("above", "below") else []


def is_answer(asks, way, node):
    """Whether a node answers what is asked next on a way, and what it says of the sum follows there.

    A way is (how many have been asked, the sums by post, the posts that were above in this step, the known sums).
    """
    at, sums, _, known = way
    if node[0] == "split":
        return True
    if node[0] == "back":
        return False
    word, many, terms, _ = node
    if any([number >= len(known) for number, _ in terms]):
        return False
    post, _ = asks[at]
    total = sums[post] if word == "above" else contrary(sums[post])
    return made_by(terms, known, len(total)) == [many * often for often in total]


def made_by(terms, known, count):
    """The known sums so often together as the terms tell, a list of so many numbers."""
    made = [0] * count
    for number, times in terms:
        made = [sum_so_far + times * often for sum_so_far, often in zip(made, known[number])]
    return made


def contrary(total):
    """The sum with all below nought that was above, and the other way about."""
    return tuple([-often for often in total])


def ways_behind(web, asks, way, node):
    """A list of (number, way) for the nodes that come next behind an answer."""
    at, sums, above, known = way
    post, _ = asks[at]
    higher = gone_on(web, asks[at], sums, above + [post])
    lower = gone_on(web, asks[at], sums, above)
    if node[0] == "above":
        return [(node[3], (at + 1, *higher, known))]
    if node[0] == "below":
        return [(node[3], (at + 1, *lower, known))]
    total = sums[post]
    yes = (at + 1, *higher, known + [total])
    no = (at + 1, *lower, known + [contrary(total)])
    return [(node[1], yes), (node[2], no)]
