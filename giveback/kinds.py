"""The kinds of parts, the weights that show them, and how a standing steps by weights."""

from math import gcd

from giveback.errors import NotAll, NotWaves
from giveback.webs import lots_of, need_part, need_standing
from giveback.wholes import is_whole_row


def kinds_of(web):
    """A list of (posts, word, weights) for each part of the web."""
    kinds = []
    for part in web.parts():
        word, weights = kind_of(web, part)
        kinds.append((tuple(part), word, weights))
    return kinds


def is_kind(web, posts, word, weights):
    """Whether these weights show that a part is of the kind that word names."""
    need_part(web, posts)
    return are_weights(len(posts), weights) and shown_by(word, gaps_of(cord_rows(web, posts), weights))


def steps_of(web, posts, weights, standing):
    """A list of the steps of a part's halves, half 0 first."""
    need_standing(web, standing)
    halves = halves_of(web, posts)
    by_post = {post: weight for post, weight in zip(posts, weights)}
    return [step_of(by_post, having, had, standing) for having, had in halves]


def halves_of(web, posts):
    """For each half of a part, half 0 first, the posts that have and those that had: (having, had)."""
    lots = lots_of(web, posts)
    if lots is None:
        return [(posts, posts)]
    first, second = lots
    return [(first, second), (second, first)]


def step_of(by_post, having, had, standing):
    """What some posts have, by their weights, less what some posts had."""
    old, now = standing
    return worth_of(by_post, having, now) - worth_of(by_post, had, old)


def worth_of(by_post, posts, numbers):
    """The numbers of some posts, each so often as its weight tells, all together."""
    return sum([by_post[post] * numbers[post] for post in posts])


def need_all(web):
    """Refuse a web of which a part isn't of the kind all."""
    for part in web.parts():
        need_all_part(web, part)


def need_all_part(web, posts):
    """Refuse a part that isn't of the kind all."""
    word, _ = kind_of(web, posts)
    if word != "all":
        raise NotAll(tuple(posts))


def need_waves(web, posts):
    """Refuse a part that isn't of waves."""
    word, _ = kind_of(web, posts)
    if word != "waves":
        raise NotWaves(tuple(posts))


def are_weights(count, thing):
    """Whether thing is a tuple of so many whole numbers from 1 on."""
    return is_whole_row(thing, count) and all([number >= 1 for number in thing])


def cord_rows(web, posts):
    """A list for each of the posts: how many cords lead from it to each of them."""
    return [[web.cords(post, other) for other in posts] for post in posts]


def gaps_of(rows, weights):
    """By how much the out of each post is above twice its weight."""
    return [weighed(row, weights) - 2 * weight for row, weight in zip(rows, weights)]


def weighed(row, numbers):
    """The numbers, each so often as the row tells in its place, all together."""
    return sum([many * number for many, number in zip(row, numbers)])


def shown_by(word, gaps):
    """Whether such gaps show the kind that word names."""
    if word == "all":
        return max(gaps) < 0
    if word == "waves":
        return min(gaps) == 0 and max(gaps) == 0
    return word == "none" and min(gaps) > 0


def kind_of(web, posts):
    """The word of a part's kind, and a tuple of weights that show it."""
    rows = cord_rows(web, posts)
    lines = triangle_of(equations(rows))
    if lines is None or lines[-1][-2] < 0:
        return "none", lowest(growing(rows))
    whole = lines[-1][-2]
    if whole > 0:
        return "all", lowest(solved(lines, whole, lines[-1][-1]))
    return "waves", lowest(solved(lines, 0, lines[-2][-3]))


def equations(rows):
    """A line for each post: its out taken from twice its weight, by the weights of all, is to be 1."""
    lines = [[-many for many in row] + [1] for row in rows]
    for at in range(len(lines)):
        lines[at][at] += 2
    return lines


def triangle_of(lines):
    """The same equations, each without the unknowns of those ahead of it, by whole numbers alone.

    The number of a line on the diagonal is then the determinant of the lines so far. Where out is less than twice
    the weight by some weights all are above nought; where it is just twice all but the last one, which is nought.
    So None is told where another one than the last isn't above nought.
    """
    lines = [list(line) for line in lines]
    ahead = 1
    for at in range(len(lines) - 1):
        pivot = lines[at][at]
        if pivot <= 0:
            return None
        for below in range(at + 1, len(lines)):
            many = lines[below][at]
            # The rest of this division is always nought: both are minors of the lines.
            lines[below] = [(pivot * low - many * high) // ahead for low, high in zip(lines[below], lines[at])]
        ahead = pivot
    return lines


def solved(lines, many, last):
    """What solves all lines but the last so many times over, where the last unknown is as given."""
    found = [last]
    for at in range(len(lines) - 2, -1, -1):
        known = weighed(lines[at][at + 1:], found)
        found = [(many * lines[at][-1] - known) // lines[at][at]] + found
    return found


def lowest(weights):
    """The same weights without what divides them all, a tuple."""
    common = 0
    for weight in weights:
        common = gcd(common, weight)
    return tuple([weight // common for weight in weights])


def growing(rows):
    """Weights by which each out is more than twice the weight, of rows that have such."""
    weights = [1] * len(rows)
    gaps = gaps_of(rows, weights)
    while not shown_by("none", gaps):
        # A weight and its out together: so they come ever nearer to those whose outs are all as many times the weight.
        weights = [3 * weight + gap for weight, gap in zip(weights, gaps)]
        gaps = gaps_of(rows, weights)
    return weights
