"""Whether a standing comes back, and papers that it never does."""

from math import lcm

from giveback.beats import following
from giveback.kinds import is_kind, kinds_of, steps_of
from giveback.webs import is_part, need_standing
from giveback.wholes import is_between, is_whole

MOST_PAPER_BEATS = 1000


def comes_back(web, standing):
    """The least number of beats from 1 on behind which the standing is there again, None where it never is."""
    need_standing(web, standing)
    beats = 1
    for kind in kinds_of(web):
        alone = standing_on(kind[0], standing)
        if part_paper(web, kind, alone) is not None:
            return None
        beats = lcm(beats, beats_till_back(web, alone))
    return beats


def never_paper(web, standing):
    """A paper that the standing never comes back, None where it does."""
    need_standing(web, standing)
    for kind in kinds_of(web):
        paper = part_paper(web, kind, standing_on(kind[0], standing))
        if paper is not None:
            return paper
    return None


def shows_never(web, standing, thing):
    """Whether thing is a paper that the standing never comes back."""
    need_standing(web, standing)
    if not isinstance(thing, tuple) or len(thing) < 3:
        return False
    word, posts, weights, *rest = thing
    if not isinstance(posts, tuple) or not is_part(web, posts):
        return False
    alone = standing_on(posts, standing)
    if word == "none":
        return rest == [] and is_kind(web, posts, "none", weights) and not is_nought(alone)
    if not is_kind(web, posts, "waves", weights):
        return False
    if word == "step":
        return len(rest) == 1 and is_stepping(rest[0], steps_of(web, posts, weights, alone))
    return word == "owes" and len(rest) == 2 and is_owing(web, posts, alone, rest[0], rest[1])


def is_stepping(half, steps):
    """Whether half is one of the halves with these steps, and steps."""
    return is_between(half, 0, len(steps) - 1) and steps[half] != 0


def is_owing(web, posts, standing, beat, post):
    """Whether beat is one that a paper may name, and post one of the posts that owes behind so many beats."""
    if not is_between(beat, 0, MOST_PAPER_BEATS) or not is_whole(post) or post not in posts:
        return False
    for _ in range(beat):
        standing = following(web, standing)
    return standing[1][post] < 0


def standing_on(posts, standing):
    """The standing with nought on all other posts; these run in it as they do beside the others."""
    old, now = standing
    places = range(len(now))
    return tuple([old[k] if k in posts else 0 for k in places]), tuple([now[k] if k in posts else 0 for k in places])


def is_nought(standing):
    """Whether all is nought, now and a beat ago."""
    return not any([number != 0 for row in standing for number in row])


def part_paper(web, kind, standing):
    """A paper that a standing of this one part never comes back, None where it does."""
    posts, word, weights = kind
    if word == "none" and not is_nought(standing):
        return "none", posts, weights
    if word == "waves":
        steps = steps_of(web, posts, weights, standing)
        for half, step in enumerate(steps):
            if step != 0:
                return "step", posts, weights, half
        return owing_paper(web, posts, weights, standing)
    return None


def owing_paper(web, posts, weights, standing):
    """The paper of the first beat and post of a part of waves that owes, where no half steps; None where none does.

    As long as no post owes these beats turn like those of a wheel: the standing is there again behind 60 at most,
    and then goes round for ever.
    """
    here = standing
    beat = 0
    while True:
        for post in posts:
            if here[1][post] < 0:
                return "owes", posts, weights, beat, post
        here = following(web, here)
        beat += 1
        if here == standing:
            return None


def beats_till_back(web, standing):
    """How many beats bring back a standing that comes back."""
    here = following(web, standing)
    beats = 1
    while here != standing:
        here = following(web, here)
        beats += 1
    return beats
