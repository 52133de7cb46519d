"""How many beats lie between two standings of a web."""

from math import lcm

from giveback.beats import following, plus, turned_about
from giveback.kinds import kinds_of, step_of
from giveback.returning import part_paper, standing_on
from giveback.waves import stretch_from, wave_beats
from giveback.webs import need_standing


def beats_between(web, one, other):
    """The number of beats behind which the one standing is the other, None where it never is."""
    need_standing(web, one)
    need_standing(web, other)
    rests = []
    told = []
    for kind in kinds_of(web):
        here, there = standing_on(kind[0], one), standing_on(kind[0], other)
        if part_paper(web, kind, here) is None:
            rests.append(rest_between(web, here, there))
        else:
            told.append(only_between(web, kind, here, there))
    if None in rests or None in told:
        return None
    if told == []:
        return meeting(rests)
    if any([beats != told[0] for beats in told]) or not fits(rests, told[0]):
        return None
    return told[0]


def fits(rests, beats):
    """Whether so many beats leave all these (turn, rest)."""
    return all([beats % turn == rest for turn, rest in rests])


def meeting(rests):
    """The least number of beats from 0 on that leaves all these (turn, rest), None where none does."""
    beats = 0
    common = 1
    for turn, rest in rests:
        # Among so many with the rests so far each rest by this turn that goes with them has been met.
        tried = [beats + common * k for k in range(turn)]
        fitting = [number for number in tried if number % turn == rest]
        if fitting == []:
            return None
        beats = fitting[0]
        common = lcm(common, turn)
    return beats


def rest_between(web, here, there):
    """(turn, rest) of a standing that comes back: turn the beats that it takes, rest those to the other, or None."""
    run = [here]
    behind = following(web, here)
    while behind != here:
        run.append(behind)
        behind = following(web, behind)
    if there not in run:
        return None
    return len(run), run.index(there)


def only_between(web, kind, here, there):
    """The only number of beats from a standing of one part, one that never comes back, to another; None of none."""
    beats = beats_on(web, kind, here, there)
    if beats is not None:
        return beats
    back = beats_on(web, kind, turned_about(here), turned_about(there))
    if back is None:
        return None
    return -back


def beats_on(web, kind, here, there):
    """The same by beats on alone."""
    posts, word, weights = kind
    if word == "none":
        return beats_on_none(web, {post: weight for post, weight in zip(posts, weights)}, here, there)
    return beats_on_waves(web, posts, here, there)


def beats_on_none(web, by_post, here, there):
    """The same on a part of the kind none, with its weights by post."""
    posts = list(by_post)
    wanted = step_of(by_post, posts, posts, there)
    beats = 0
    # The step of all numbers never falls, and soon grows.
    while step_of(by_post, posts, posts, here) <= wanted:
        if here == there:
            return beats
        here = following(web, here)
        beats += 1
    return None


def beats_on_waves(web, posts, here, there):
    """The same on a part of waves."""
    turn = wave_beats(web, posts)
    beats = 0
    while True:
        run, more, rounds = stretch_from(web, turn, here)
        for at in range(turn):
            many = times_between(run[at], more[at], there)
            if many is not None and (rounds is None or many < rounds):
                return beats + turn * many + at
        if rounds is None:
            return None
        here = plus(here, more[0], rounds)
        beats += turn * rounds


def times_between(here, more, there):
    """How often, from 0 times on, more is put to the one standing to make the other; None where that never does."""
    many = 0
    for own, step, wanted in zip(here[0] + here[1], more[0] + more[1], there[0] + there[1]):
        if step != 0:
            many = (wanted - own) // step
    if many < 0 or plus(here, more, many) != there:
        return None
    return many
