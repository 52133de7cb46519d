"""What the tests share: webs to test on, a slow second way to beat, and things of any kind."""

import copy
import random

from giveback.shapes import home_of
from giveback.webs import Web, lots_of

# Things that are handed in where anything may be.
THINGS = [
    None, True, False, 0, 1, -1, 7, 10 ** 999, "", "0", "all", "none", "a\nb", [], (), {}, [None], (None,),
    {"posts": [0]}, {0: 0}, [[]], ((),), ((), ()), [0], (0,), [0, 1], (0, 1), [True], (False,), [[0]], ((0,), (0,)),
    [(0, 1)], "01", (0, "1"), [0, None], {1: (2, [3])}, ("none", (0,), (1,)), ([0, 0], [0, 0]),
]


def row_ties(order):
    """The single ties of a row in this order."""
    return [tie(one, other) for one, other in zip(order, order[1:])]


def tie(one, other, there=1, back=1):
    """A tie of two posts in any order; there leads from the one named first."""
    return (one, other, there, back) if one < other else (other, one, back, there)


def shape_ties(word, order, swap=False):
    """The ties by which [30] describes a shape; swap turns its double or triple tie about."""
    heavy = (lambda many: (many, 1)) if swap else (lambda many: (1, many))
    size = len(order)
    if word == "row":
        return row_ties(order)
    if word == "end":
        return row_ties(order[:-1]) + [tie(order[-2], order[-1], *heavy(2))]
    if word == "middle":
        return [tie(order[0], order[1]), tie(order[1], order[2], *heavy(2)), tie(order[2], order[3])]
    if word == "three":
        return [tie(order[0], order[1], *heavy(3))]
    if word == "fork":
        return row_ties(order[:-1]) + [tie(order[-3], order[-1])]
    assert word == "arms"
    pairs = [(0, 1), (0, 2), (0, 4), (2, 3), (4, 5)] + [(k - 1, k) for k in range(6, size)]
    return [tie(order[one], order[other]) for one, other in pairs]


# All shapes, each with all its sizes up to twelve posts.
SHAPES = (
    [("row", size) for size in range(1, 13)] + [("end", size) for size in range(2, 13)] + [("middle", 4), ("three", 2)]
    + [("fork", size) for size in range(4, 13)] + [("arms", size) for size in (6, 7, 8)]
)


def shape_webs(chance):
    """(word, order, web) for each shape and size, posts numbered anyhow, double and triple ties either way."""
    for word, size in SHAPES:
        for swap in (False, True):
            order = list(range(size))
            chance.shuffle(order)
            yield word, order, Web(size, shape_ties(word, order, swap))


def waves_ties():
    """(size, ties) of webs of one part, of the kind waves, of each sort that there is."""
    found = [(2, [(0, 1, 2, 2)]), (2, [(0, 1, 1, 4)]), (2, [(0, 1, 4, 1)])]
    found += [(size, row_ties(list(range(size))) + [tie(0, size - 1)]) for size in range(3, 13)]
    ends = [[(1, 2)], [(2, 1)], None]
    for size in range(3, 13):
        for low in ends:
            for high in ends:
                found += two_ended(size, low, high)
    for there, back in ((1, 2), (2, 1)):
        found.append((5, [tie(0, 1), tie(1, 2), tie(2, 3, there, back), tie(3, 4)]))
    for there, back in ((1, 3), (3, 1)):
        found.append((3, [tie(0, 1), tie(1, 2, there, back)]))
    for arms in ((2, 2, 2), (1, 3, 3), (1, 2, 5)):
        found.append(star(arms))
    return found


def two_ended(size, low, high):
    """A row with a double tie or a fork at each end, where so many posts make such a one."""
    if size < 3 + (low is None) + (high is None):
        return []
    ties = []
    first, last = 0, size - 1
    for end, at in ((low, "low"), (high, "high")):
        near, far, inward = (0, 1, 2) if at == "low" else (size - 1, size - 2, size - 3)
        if end is None:
            ties += [tie(near, inward), tie(far, inward)]
            first, last = (2, last) if at == "low" else (first, size - 3)
        else:
            ties.append(tie(near, far, *end[0]))
            first, last = (1, last) if at == "low" else (first, size - 2)
    return [(size, ties + row_ties(list(range(first, last + 1))))]


def star(arms):
    """(size, ties) of post 0 with arms of so many posts, all single."""
    ties = []
    size = 1
    for many in arms:
        ties += row_ties([0] + list(range(size, size + many)))
        size += many
    return size, ties


def none_ties():
    """(size, ties) of webs of one part, of the kind none, some just beyond waves, some far."""
    found = [star(arms) for arms in ((1, 2, 6), (1, 2, 8), (1, 3, 4), (2, 2, 3), (2, 2, 7), (1, 1, 1, 2), (1,) * 5)]
    found += [(2, [(0, 1, 1, 5)]), (2, [(0, 1, 9, 9)]), (2, [(0, 1, 9, 1)]), (2, [(0, 1, 2, 3)])]
    found += [(3, [(0, 1, 2, 1), (0, 2, 1, 1), (1, 2, 1, 1)]), (3, [(0, 1, 1, 3), (1, 2, 3, 1)])]
    found += [(12, row_ties(list(range(12))) + [(0, 11, 1, 2)])]
    found += [(12, [(k, k + 1, 9, 1) for k in range(11)])]
    found += [(12, [(one, other, 9, 9) for other in range(12) for one in range(other)])]
    return found


def relabelled(size, ties, order):
    """The web of these ties, post k being called order[k]."""
    return Web(size, [tie(order[one], order[other], there, back) for one, other, there, back in ties])


def shuffled(size, ties, chance):
    """The web of these ties, posts numbered anyhow, ties in any order."""
    order = list(range(size))
    chance.shuffle(order)
    ties = list(ties)
    chance.shuffle(ties)
    return relabelled(size, ties, order)


def side_by_side(parts, chance):
    """The web of several (size, ties), posts numbered anyhow."""
    ties = []
    size = 0
    for many, own in parts:
        ties += [(one + size, other + size, there, back) for one, other, there, back in own]
        size += many
    return shuffled(size, ties, chance)


def random_web(chance, size, extra=2, most=9):
    """A web of some ties, drawn."""
    many = chance.randint(0, max(0, size + extra)) if size > 1 else 0
    pairs = {tuple(sorted(chance.sample(range(size), 2))) for _ in range(many)}
    return Web(size, [(one, other, chance.randint(1, most), chance.randint(1, most)) for one, other in sorted(pairs)])


def drawn(chance, size, most):
    """A standing drawn from numbers up to most either way."""
    return tuple(tuple(chance.randint(-most, most) for _ in range(size)) for _ in range(2))


def slow_beat(web, standing):
    """A beat straight by the words of [13], without the program's own beats."""
    return slow_run(web, standing, 1)[1]


def slow_run(web, standing, beats):
    """The standing and those behind it, by slow beats."""
    posts = range(len(web))
    leads = [[(other, web.cords(other, post)) for other in posts if web.cords(other, post)] for post in posts]
    run = [standing]
    for _ in range(beats):
        old, now = run[-1]
        new = [sum(many * now[other] for other, many in leads[post] if now[other] > 0) - old[post] for post in posts]
        run.append((now, tuple(new)))
    return run


def whole_throughout(thing):
    """Whether thing is a tuple of tuples of ints."""
    return type(thing) is tuple and all(type(row) is tuple and all(type(n) is int for n in row) for row in thing)


def refusal(case, kind, ask, *handed, **named):
    """The refusal of this very class that a call makes; what was handed in is as it was."""
    before = copy.deepcopy((handed, [thing for thing in named.values() if not isinstance(thing, Web)]))
    with case.assertRaises(kind) as caught:
        ask(*handed, **named)
    case.assertIs(type(caught.exception), kind)
    after = (handed, [thing for thing in named.values() if not isinstance(thing, Web)])
    case.assertEqual(before, after)
    return caught.exception


def same(case, told, wanted):
    """Equal and of the same kinds throughout, as True == 1 and such don't count."""
    case.assertEqual(told, wanted)
    case.assertEqual(repr(told), repr(wanted))


def seeded(number):
    """A source of draws that are the same each time."""
    return random.Random(number)


def spoiled(told):
    """Change every list in what was told."""
    if isinstance(told, (list, tuple)):
        for thing in told:
            spoiled(thing)
    if isinstance(told, list):
        told.append("spoiled")


def gap(web, posts, weights):
    """Out less twice the weight, of each of the posts, straight by the words of [20]."""
    weight = dict(zip(posts, weights))
    return [sum(web.cords(one, other) * weight[other] for other in posts) - 2 * weight[one] for one in posts]


def shows(web, posts, word, weights):
    """Whether weights show the word, straight by the words of [20]."""
    tests = {"all": lambda n: n < 0, "waves": lambda n: n == 0, "none": lambda n: n > 0}
    return all(tests[word](n) for n in gap(web, posts, weights))


def slow_back(web, standing, most=130):
    """The least number of beats behind which a standing is there again, None where it isn't within so many."""
    run = slow_run(web, standing, most)
    return next((beats for beats in range(1, most + 1) if run[beats] == standing), None)


def resting(web):
    """Numbers for a web of waves, one part, that stay as they are beat by beat."""
    from giveback.kinds import kinds_of
    turned = Web(len(web), [(one, other, back, there) for one, other, there, back in web.ties()])
    return kinds_of(turned)[0][2]


def just_owing(web, draw, most):
    """A standing of which no half steps and that owes, though a little more everywhere and it would never."""
    low, high = 0, 1
    while slow_back(web, level(web, seeded(draw), most, high)) is None:
        low, high = high, 2 * high
    while high - low > 1:
        middle = (low + high) // 2
        owes = slow_back(web, level(web, seeded(draw), most, middle)) is None
        low, high = (middle, high) if owes else (low, middle)
    return level(web, seeded(draw), most, low)


def level(web, chance, most, high):
    """A standing of a web of waves, one part, of which no half steps: drawn numbers about a resting one."""
    from giveback.kinds import kinds_of
    posts, _, weights = kinds_of(web)[0]
    lots = lots_of(web, posts) or (posts, posts)
    one, two = drawn(chance, len(web), most), drawn(chance, len(web), most)
    rest = resting(web)
    old, now = [[high * number for number in rest] for _ in range(2)]
    for having, had in sorted({(tuple(lots[0]), tuple(lots[1])), (tuple(lots[1]), tuple(lots[0]))}):
        step = [
            sum(weights[k] * drawing[1][k] for k in having) - sum(weights[k] * drawing[0][k] for k in had)
            for drawing in (one, two)
        ]
        for k in having:
            now[k] += step[1] * one[1][k] - step[0] * two[1][k]
        for k in had:
            old[k] += step[1] * one[0][k] - step[0] * two[0][k]
    return tuple(old), tuple(now)


def slow_behind(web, standing, beats):
    """The standing behind so many beats gone one by one, below nought by beats back."""
    if beats >= 0:
        return slow_run(web, standing, beats)[-1]
    return slow_run(web, standing[::-1], -beats)[-1][::-1]


def nought(web):
    """The standing of nought."""
    return ((0,) * len(web), (0,) * len(web))


def put_on(size, parts):
    """A standing of so many posts of standings, each on its posts: a list of (posts, standing)."""
    rows = [[0] * size, [0] * size]
    for posts, standing in parts:
        for row, numbers in zip(rows, standing):
            for post, number in zip(posts, numbers):
                row[post] = number
    return tuple(tuple(row) for row in rows)


def falling(web, high):
    """A standing of a web of waves, one part, that falls beat by beat to nought, has it behind high beats, then owes."""
    rest = resting(web)
    return tuple((high + 1) * number for number in rest), tuple(high * number for number in rest)


def slow_last(web, standing, turn):
    """The last beat at which any post owes, beats gone one by one until all only rise from turn to turn of beats."""
    last = None
    beats = 0
    ahead = None
    while True:
        run = slow_run(web, standing, turn)
        owing = [beat for beat in range(turn) if min(run[beat][1]) < 0]
        if owing:
            last = beats + owing[-1]
        elif ahead and all(low <= high for one, two in zip(ahead, run) for low, high in zip(one[1], two[1])):
            return last
        ahead = None if owing else run[:turn]
        standing = run[turn]
        beats += turn


# The shapes whose case trees are told.
TOLD = (
    [("row", size) for size in range(1, 6)] + [("end", 2), ("end", 3), ("end", 4), ("fork", 4), ("fork", 5)]
    + [("middle", 4), ("three", 2)]
)


class Looked:
    """A small web gone by all standings that are sums of single debts that go together, by beats one by one."""

    def __init__(self, web):
        self.web = web
        self.places = {}
        self.half_at = {}
        for part in web.parts():
            lots = lots_of(web, part)
            for beat in range(home_of(web, part)[0]):
                for post in part:
                    half = (beat + (post in lots[1])) % 2
                    self.half_at[beat, post] = (tuple(part), half)
                    self.places.setdefault((tuple(part), half), []).append((beat, post))
        for half in [(tuple(part), half) for part in web.parts() for half in (0, 1)]:
            self.places.setdefault(half, [])
        self.sums = {half: self.sums_of(places) for half, places in self.places.items()}

    def sums_of(self, places):
        """(debts, what it has at each place) of each sum of single debts of a half that go together."""
        web = self.web
        most = max([beat for beat, _ in places], default=0)
        rows = {}
        for beat, post in places:
            there = (0,) * len(web), tuple(-int(k == post) for k in range(len(web)))
            run = slow_run(web, slow_behind(web, there, -beat), most)
            rows[beat, post] = [run[at][1][other] for at, other in places]
        found = [((), [0] * len(places))]
        for place in places:
            for debts, numbers in list(found):
                if all(self.fit(rows[place], rows[debt]) for debt in debts):
                    found.append((debts + (place,), [low + high for low, high in zip(numbers, rows[place])]))
        return [(debts, dict(zip(places, numbers))) for debts, numbers in found]

    def fit(self, one, other):
        """Whether at no place the one has more than nought and the other less."""
        return not any(low * high < 0 for low, high in zip(one, other))

    def showing(self, half, sights):
        """The lots of debts of all sums of a half that show all its sights."""
        own = [sight for sight in sights if self.half_at[sight[:2]] == half]
        return [debts for debts, has in self.sums[half] if all(word_of(has[sight[:2]]) == sight[2] for sight in own)]

    def are_shown(self, sights):
        """Whether some standing shows all sights."""
        return all(self.showing(half, sights) for half in self.places)

    def blamed(self, sights):
        """The blame, straight by the words of [43]."""
        if self.are_shown(sights):
            return None
        left = list(range(len(sights)))
        for place in range(len(sights))[::-1]:
            fewer = [k for k in left if k != place]
            if not self.are_shown([sights[k] for k in fewer]):
                left = fewer
        return left


def word_of(number):
    """The word of what a post has."""
    return "owes" if number < 0 else "has" if number > 0 else "nought"
