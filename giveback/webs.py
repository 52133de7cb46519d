"""Webs of posts and cords, the parts and lots of their posts, and what may stand on them."""

from giveback.errors import NoPart, NoPost, NoStanding, NoWeb
from giveback.wholes import is_between, is_whole, is_whole_row

MOST_POSTS = 12
MOST_CORDS = 9
GREATEST = 10 ** 30


class Web:
    """Posts, numbered from 0, and the cords that lead from one to another; it never changes."""

    def __init__(self, size, ties):
        need_size(size)
        need_ties(size, ties)
        rows = [[0] * size for _ in range(size)]
        for one, other, there, back in ties:
            rows[one][other] = there
            rows[other][one] = back
        self._rows = tuple([tuple(row) for row in rows])
        self._ties = tuple(sorted(ties))

    def __len__(self):
        return len(self._rows)

    def __eq__(self, other):
        return isinstance(other, Web) and self._rows == other._rows

    def ties(self):
        """A list of the ties (one, other, there, back), rising."""
        return list(self._ties)

    def cords(self, one, other):
        """How many cords lead from one to other."""
        need_post(self, one)
        need_post(self, other)
        return self._rows[one][other]

    def parts(self):
        """A list of the parts, each a list of its posts, rising, by their first posts."""
        found = []
        for post in range(len(self._rows)):
            if not any([post in part for part in found]):
                found.append(self._part_of(post))
        return found

    def _part_of(self, post):
        reached = [post]
        at = 0
        while at < len(reached):
            ahead = [other for other in tied_to(self, reached[at]) if other not in reached]
            reached.extend(ahead)
            at += 1
        return sorted(reached)


def tied_to(web, post):
    """A list of the posts that are tied to this one, rising."""
    pairs = [tie[:2] for tie in web.ties()]
    return [one for one, other in pairs if other == post] + [other for one, other in pairs if one == post]


def part_around(web, post):
    """The part of a post, a list."""
    return [part for part in web.parts() if post in part][0]


def lots_of(web, posts):
    """The two lots of a part, (first, second), each a list; None where it has none."""
    need_part(web, posts)
    lots = {posts[0]: 0}
    waiting = [posts[0]]
    while waiting:
        post = waiting.pop()
        for other in tied_to(web, post):
            if other not in lots:
                lots[other] = 1 - lots[post]
                waiting.append(other)
    if any([lots[one] == lots[two] for one in posts for two in tied_to(web, one)]):
        return None
    return [one for one in posts if lots[one] == 0], [one for one in posts if lots[one] == 1]


def need_size(size):
    """Refuse what is no number of posts."""
    if not is_between(size, 1, MOST_POSTS):
        raise NoWeb("size")


def need_ties(size, ties):
    """Refuse what is no list of ties between so many posts."""
    if not are_ties(size, ties):
        raise NoWeb("ties")


def are_ties(size, thing):
    """Whether thing is a list of ties between so many posts, each two of them tied once at most."""
    if not isinstance(thing, (list, tuple)) or not all([is_tie(size, tie) for tie in thing]):
        return False
    return len(set([(tie[0], tie[1]) for tie in thing])) == len(thing)


def is_tie(size, thing):
    """Whether thing is a tie between two of so many posts."""
    if not is_whole_row(thing, 4):
        return False
    one, other, there, back = thing
    return 0 <= one < other < size and 1 <= there <= MOST_CORDS and 1 <= back <= MOST_CORDS


def need_post(web, post):
    """Refuse what is no post of the web."""
    if not is_between(post, 0, len(web) - 1):
        raise NoPost(post)


def is_part(web, posts):
    """Whether posts, a list or tuple, are a part of the web."""
    if not isinstance(posts, (list, tuple)) or not all([is_whole(post) for post in posts]):
        return False
    return list(posts) in web.parts()


def need_part(web, posts):
    """Refuse what is no part of the web."""
    if not is_part(web, posts):
        raise NoPart(posts)


def need_standing(web, standing):
    """Refuse what is no standing of the web."""
    fault = standing_fault(web, standing)
    if fault is not None:
        raise NoStanding(fault)


def standing_fault(web, thing):
    """What is wrong with thing as a standing of the web, standing or numbers; None where nothing is."""
    if not isinstance(thing, tuple) or len(thing) != 2:
        return "standing"
    if not all([isinstance(row, tuple) and len(row) == len(web) for row in thing]):
        return "standing"
    if not are_bearable(thing):
        return "numbers"
    return None


def are_bearable(rows):
    """Whether all is whole numbers that may be handed in, told both rows of a standing."""
    return all([is_between(number, -GREATEST, GREATEST) for row in rows for number in row])
