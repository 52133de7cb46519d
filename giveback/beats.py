"""Beats, on and back, one by one."""

from giveback.webs import need_standing


def beat_on(web, standing):
    """The standing behind one beat."""
    need_standing(web, standing)
    return following(web, standing)


def beat_back(web, standing):
    """The standing whose beat leads to this one."""
    need_standing(web, standing)
    return turned_about(following(web, turned_about(standing)))


def run_of(web, standing, beats):
    """A list of the standing and those behind it, one for each of so many beats."""
    need_standing(web, standing)
    return run_on(web, standing, beats)


def run_on(web, standing, beats):
    """The same list, however great the numbers are."""
    run = [standing]
    for _ in range(beats):
        run.append(following(web, run[-1]))
    return run


def following(web, standing):
    """The standing behind one beat, however great its numbers are."""
    old, now = standing
    return now, less(gains(web, now), old)


def turned_about(standing):
    """The standing as seen with time turned about: its beats on are this one's beats back."""
    old, now = standing
    return now, old


def gains(web, numbers):
    """What each post gets by the cords that lead to it, where the posts have these numbers."""
    gained = [0] * len(web)
    for one, other, there, back in web.ties():
        gained[other] += there * max(0, numbers[one])
        gained[one] += back * max(0, numbers[other])
    return gained


def less(numbers, others):
    """A tuple of the numbers, each less the other in its place."""
    return tuple([number - other for number, other in zip(numbers, others)])


def with_more(numbers, others, many):
    """A tuple of the numbers, each with the other in its place put to it so many times."""
    return tuple([number + many * other for number, other in zip(numbers, others)])


def plus(standing, other, many):
    """The standing with the other one's numbers put to its own so many times."""
    old, now = standing
    older, newer = other
    return with_more(old, older, many), with_more(now, newer, many)


def nought_on(web):
    """The standing of nought on all posts."""
    row = (0,) * len(web)
    return row, row
