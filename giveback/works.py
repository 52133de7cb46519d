"""Works: a web and what stands on it, deed by deed, and as it was ahead of deeds."""

from giveback.beats import nought_on, with_more
from giveback.changes import tie_of, without
from giveback.errors import Full, NoDeed, NoDeeds, NoNumber, NoTie
from giveback.far import standing_behind
from giveback.kinds import kinds_of
from giveback.returning import comes_back
from giveback.webs import MOST_CORDS, Web, are_bearable, need_post
from giveback.wholes import is_between

MOST_PUT = 10 ** 18


class Works:
    """A web with nought on all posts at first, and all that is done to it."""

    def __init__(self, web):
        self._deeds = []
        # What stood at first, and behind each deed: so a deed is taken back, and what was is told, without beats back.
        self._stood = [(web, nought_on(web))]

    def __len__(self):
        return len(self._deeds)

    def put(self, post, number):
        """Put so much more on a post."""
        web, standing = self._stood[-1]
        need_post(web, post)
        if not is_between(number, -MOST_PUT, MOST_PUT):
            raise NoNumber(number)
        old, now = standing
        behind = old, with_more(now, [int(other == post) for other in range(len(web))], number)
        self._do(("put", post, number), web, behind, 0)

    def bind(self, one, other, there, back):
        """Tie two posts, by so many cords there and back."""
        web, standing = self._stood[-1]
        need_post(web, one)
        need_post(web, other)
        if one == other or are_tied(web, one, other) or not are_cords(there, back):
            raise NoTie((one, other))
        bound = Web(len(web), web.ties() + [tie_of(one, other, there, back)])
        self._do(("bind", one, other, there, back), bound, standing, 0)

    def cut(self, one, other):
        """Cut the tie of two posts."""
        web, standing = self._stood[-1]
        need_post(web, one)
        need_post(web, other)
        if not are_tied(web, one, other):
            raise NoTie((one, other))
        self._do(("cut", one, other), without(web, [(min(one, other), max(one, other))]), standing, 0)

    def go(self, beats):
        """Let so many beats pass, below nought beats back."""
        web, standing = self._stood[-1]
        self._do(("go", beats), web, standing_behind(web, standing, beats), beats)

    def undo(self):
        """Take back the last deed that stands."""
        if len(self._deeds) == 0:
            raise NoDeed()
        self._deeds.pop()
        self._stood.pop()

    def web(self, *, upto=None):
        """The web, as of so many deeds."""
        web, _ = self._stood_behind(upto)
        return web

    def standing(self, *, upto=None):
        """The standing, as of so many deeds."""
        _, standing = self._stood_behind(upto)
        return standing

    def kinds(self, *, upto=None):
        """The kinds of the web's parts, as of so many deeds."""
        return kinds_of(self.web(upto=upto))

    def comes_back(self, *, upto=None):
        """Behind how many beats the standing is there again, None where it never is, as of so many deeds."""
        web, standing = self._stood_behind(upto)
        return comes_back(web, standing)

    def deeds(self):
        """A list of all deeds that stand, each its word and what was handed in."""
        return list(self._deeds)

    def _do(self, deed, web, standing, beats):
        if not are_bearable(standing):
            raise Full(beats)
        self._deeds.append(deed)
        self._stood.append((web, standing))

    def _stood_behind(self, upto):
        if upto is None:
            return self._stood[-1]
        if not is_between(upto, 0, len(self._deeds)):
            raise NoDeeds(upto)
        return self._stood[upto]


def are_tied(web, one, other):
    """Whether two posts are tied."""
    return web.cords(one, other) > 0


def are_cords(there, back):
    """Whether both are numbers of cords that a tie may have."""
    return is_between(there, 1, MOST_CORDS) and is_between(back, 1, MOST_CORDS)
