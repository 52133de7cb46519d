"""Case trees: how every half of a part comes back, gone by the signs of what is read.

A sum is kept as its values on all single debts of the half, as they stand at the half's beginning: these tell it, and
on them it is seen what follows from the known sums.
"""

from math import gcd

from giveback.beats import less
from giveback.debts import places_of, single_standing
from giveback.errors import TooMany
from giveback.kinds import need_all_part
from giveback.shapes import part_home_beats, shape_of
from giveback.webs import lots_of, need_part

MOST_LEAVES = 200
MOST_TOLD = {"row": 5, "end": 4, "fork": 5, "middle": 4, "three": 2, "arms": 0}


def cases_of(web, posts, half):
    """The case tree of a half of a part of the kind all, a list of nodes."""
    need_part(web, posts)
    need_all_part(web, posts)
    need_told_cases(web, posts)
    asks = asks_of(web, posts, half)
    tree = [("back",)]
    waiting = [(0, (0, first_sums(web, posts, half), [], []))]
    while waiting:
        number, way = waiting.pop()
        if way[0] < len(asks):
            node, ways = answered(web, asks, way, len(tree))
            for behind in ways:
                waiting.append((len(tree), behind))
                tree.append(("back",))
            tree[number] = node
    return tree


def need_told_cases(web, posts):
    """Refuse a part whose trees have more leaves than are told."""
    word, order = shape_of(web, posts)
    if len(order) > MOST_TOLD[word]:
        raise TooMany(MOST_LEAVES)


def asks_of(web, posts, half):
    """All that is asked: (post, changed), changed the posts that change once it is answered."""
    lots = lots_of(web, posts)
    asks = []
    if len(posts) > 1:
        for step in range(part_home_beats(web, posts)):
            having, changed = lots[(half + step) % 2], lots[(half + step + 1) % 2]
            asks.extend([(post, []) for post in having[:-1]])
            asks.append((having[-1], changed))
    return asks


def first_sums(web, posts, half):
    """By post the numbers of a half's beginning, each as its values on the half's single debts."""
    having = lots_of(web, posts)[half]
    singles = [single_standing(web, beat, post) for beat, post in places_of(web, posts, half)]
    return {post: tuple([now[post] if post in having else old[post] for old, now in singles]) for post in posts}


def answered(web, asks, way, first):
    """The node of what is asked next on a way, and a list of the ways behind it, nodes numbered from first on.

    A way is (how many have been asked, the sums by post, the posts that were above in this step, the known sums).
    """
    at, sums, above, known = way
    post, _ = asks[at]
    total = sums[post]
    contrary = tuple([-value for value in total])
    rays = rays_within(known, len(total))
    values = [total[ray] for ray in rays]
    higher = gone_on(web, asks[at], sums, above + [post])
    lower = gone_on(web, asks[at], sums, above)
    if min(values) < 0 and max(values) > 0:
        ways = [(at + 1, *higher, known + [total]), (at + 1, *lower, known + [contrary])]
        return ("split", first, first + 1), ways
    if max(values) > 0:
        many, terms = made_of(total, known, rays)
        return ("above", many, terms, first), [(at + 1, *higher, known)]
    many, terms = made_of(contrary, known, rays)
    return ("below", many, terms, first), [(at + 1, *lower, known)]


def gone_on(web, ask, sums, above):
    """The sums and the posts above, as they are once this is answered."""
    _, changed = ask
    if changed == []:
        return sums, above
    behind = dict(sums)
    for post in changed:
        behind[post] = less(gained(web, sums, above, post), sums[post])
    return behind, []


def gained(web, sums, above, post):
    """The sum of what a post gets from those above."""
    values = [0] * len(sums[post])
    for one in above:
        many = web.cords(one, post)
        values = [value + many * more for value, more in zip(values, sums[one])]
    return values


def rays_within(known, count):
    """The places, of so many single debts, of those on which no known sum is below nought."""
    return [ray for ray in range(count) if all([total[ray] >= 0 for total in known])]


def made_of(total, known, rays):
    """(many, terms): so many times the sum is the known ones so often together.

    One known sum behind the other is taken from what is left, each as often as can be. It is always one that is
    nought wherever what is left is nought: those that what is left is made of are so, all being nowhere below.
    """
    left = [total[ray] for ray in rays]
    rows = [[one[ray] for ray in rays] for one in known]
    many = 1
    times = [0] * len(known)
    while any([value != 0 for value in left]):
        at = [vanishes_with(row, left) for row in rows].index(True)
        taken, ahead = least_share(left, rows[at])
        left = [ahead * value - taken * less_by for value, less_by in zip(left, rows[at])]
        times = [ahead * often for often in times]
        times[at] += taken
        many *= ahead
    common = many
    for often in times:
        common = gcd(common, often)
    return many // common, tuple([(at, often // common) for at, often in enumerate(times) if often > 0])


def vanishes_with(row, left):
    """Whether a row is nought wherever the other one is."""
    return all([value == 0 for value, other in zip(row, left) if other == 0])


def least_share(left, row):
    """(one, other), the least that one of the values left is of the value above nought in its place in the row."""
    one, other = 1, 0
    for value, whole in zip(left, row):
        if whole > 0 and value * other < one * whole:
            one, other = value, whole
    return one, other
