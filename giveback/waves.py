"""Parts of waves: behind how many beats they are there again, and until when they owe.

As long as no post owes, each round of wave beats adds the same to all numbers. So a standing is gone through by
stretches: many rounds alike at once, or one round in which a post owes, beat by beat.
"""

from math import lcm

from giveback.beats import gains, less, plus, run_on
from giveback.kinds import halves_of, kind_of, need_waves
from giveback.returning import standing_on
from giveback.webs import need_part, need_standing


def wave_beats(web, posts):
    """The least number of beats that brings back all standings of a part of waves that never owe nor step."""
    need_part(web, posts)
    need_waves(web, posts)
    _, weights = kind_of(web, posts)
    beats = 1
    for standing in level_standings(web, posts, weights):
        beats = lcm(beats, swings_till_back(web, standing))
    return beats


def last_owed(web, standing):
    """The last beat, from 0 on, at which any post owes, None where none ever does."""
    need_standing(web, standing)
    parts = web.parts()
    for posts in parts:
        need_waves(web, posts)
    last = [last_owed_on(web, posts, standing_on(posts, standing)) for posts in parts]
    return max([beat for beat in last if beat is not None], default=None)


def last_owed_on(web, posts, standing):
    """The same, of a standing of this one part."""
    turn = wave_beats(web, posts)
    last = None
    beats = 0
    while True:
        run, more, rounds = stretch_from(web, turn, standing)
        for at in range(turn):
            if owes(run[at]):
                last = beats + at
        if rounds is None:
            return last
        standing = plus(standing, more[0], rounds)
        beats += turn * rounds


def stretch_from(web, turn, standing):
    """How a standing of a part of waves runs for some rounds of so many beats as turn: (run, more, rounds).

    The run is a list of its standings of one round. In as many rounds as told, None where it is for ever, each of
    them has so much more than in the round ahead as its place in the list more tells.
    """
    run = run_on(web, standing, turn)
    more = swings_on(web, plus(run[turn], standing, -1), turn)
    if any([owes(run[at]) for at in range(turn)]):
        return run, more, 1
    rounds = [rounds_till_owing(run[at][1], more[at][1]) for at in range(turn)]
    return run, more, min([many for many in rounds if many is not None], default=None)


def rounds_till_owing(now, more):
    """In how many rounds none of these numbers owes, with so much more in each; None where none ever does."""
    return min([number // -step + 1 for number, step in zip(now, more) if step < 0], default=None)


def owes(standing):
    """Whether any post has less than nought."""
    return min(standing[1]) < 0


def level_standings(web, posts, weights):
    """Standings of which no half steps, enough of them: all others of half 0 are made of these by sums and shares.

    Those of half 1 are the like behind a beat, and so need no other beats.
    """
    by_post = {post: weight for post, weight in zip(posts, weights)}
    having, had = halves_of(web, posts)[0]
    first = having[0]
    found = []
    for post in having[1:]:
        found.append((only(web, {}), only(web, {first: by_post[post], post: -by_post[first]})))
    for post in had:
        found.append((only(web, {post: by_post[first]}), only(web, {first: by_post[post]})))
    return found


def only(web, numbers):
    """A tuple of the numbers of a dict by posts, and nought for all other posts."""
    return tuple([numbers.get(post, 0) for post in range(len(web))])


def swing(web, standing):
    """The standing behind one beat, if what is owed led along the cords like all else."""
    old, now = standing
    owed = [-number for number in now]
    return now, less(less(gains(web, now), gains(web, owed)), old)


def swings_on(web, standing, many):
    """A list of the standing and those behind it, one for each of so many swings."""
    run = [standing]
    for _ in range(many):
        run.append(swing(web, run[-1]))
    return run


def swings_till_back(web, standing):
    """How many swings bring a standing back of which no half steps."""
    here = swing(web, standing)
    many = 1
    while here != standing:
        here = swing(web, here)
        many += 1
    return many
