"""What a post has at most on a web where every standing comes back, and when it has more than a number."""

from giveback.beats import following
from giveback.kinds import need_all
from giveback.shapes import part_home_beats
from giveback.webs import need_post, need_standing, part_around


def most_ever(web, standing, post):
    """The most that a post ever has, and the least number of beats from 0 on behind which it has it."""
    having = all_it_has(web, standing, post)
    most = max(having)
    return most, having.index(most)


def first_above(web, standing, post, number):
    """The least number of beats from 0 on behind which a post has more than number, None where it never has."""
    for beats, having in enumerate(all_it_has(web, standing, post)):
        if having > number:
            return beats
    return None


def all_it_has(web, standing, post):
    """A list of what a post has, from 0 beats on, until it all begins anew."""
    need_standing(web, standing)
    need_all(web)
    need_post(web, post)
    having = []
    for _ in range(part_home_beats(web, part_around(web, post))):
        having.append(standing[1][post])
        standing = following(web, standing)
    return having
