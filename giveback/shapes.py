"""The shapes of the parts on which every standing comes back, and when it does."""

from math import lcm

from giveback.kinds import need_all_part
from giveback.webs import need_part, tied_to

ARMS_BEATS = {6: 14, 7: 20, 8: 32}
MIDDLE_BEATS = 14
THREE_BEATS = 8


def shape_of(web, posts):
    """The word of a part's shape, and an order of its posts that tells its ties."""
    need_part(web, posts)
    need_all_part(web, posts)
    hubs = [post for post in posts if len(tied_to(web, post)) == 3]
    if hubs:
        return shape_at(web, hubs[0])
    ends = [post for post in posts if len(tied_to(web, post)) <= 1]
    return shape_along(web, arm_from(web, ends[0], ends[0]))


def home_of(web, posts):
    """Behind how many beats each post of a part has what which one had, a tuple, in every standing."""
    word, order = shape_of(web, posts)
    turned = turned_order(word, order)
    turning = {post: other for post, other in zip(order, turned)}
    return turning_beats(word, len(order)), tuple([turning[post] for post in sorted(order)])


def home_beats(web):
    """The least number of beats behind which every standing of the web is there again."""
    beats = 1
    for part in web.parts():
        beats = lcm(beats, part_home_beats(web, part))
    return beats


def part_home_beats(web, posts):
    """The least number of beats behind which a part is as it was in every standing."""
    beats, turning = home_of(web, posts)
    if list(turning) == list(posts):
        return beats
    return 2 * beats


def arm_from(web, before, post):
    """The posts from this one on, away from the one before it, as long as each has one more ahead."""
    arm = [post]
    ahead = [other for other in tied_to(web, post) if other != before]
    while ahead:
        before = arm[-1]
        arm.append(ahead[0])
        ahead = [other for other in tied_to(web, ahead[0]) if other != before]
    return arm


def shape_at(web, hub):
    """The shape around the one post that has three neighbours."""
    arms = [arm_from(web, hub, post) for post in tied_to(web, hub)]
    short, middle, far = sorted(arms, key=len)
    if len(middle) == 1:
        return "fork", tuple(far[::-1] + [hub] + short + middle)
    return "arms", tuple([hub] + short + middle + far)


def shape_along(web, order):
    """The shape of posts of which each is tied to the next one alone."""
    strengths = [tie_strength(web, one, other) for one, other in zip(order, order[1:])]
    if 3 in strengths:
        return "three", tuple(order)
    if 2 not in strengths:
        return "row", tuple(order)
    if strengths[-1] == 2:
        return "end", tuple(order)
    if strengths[0] == 2:
        return "end", tuple(order[::-1])
    return "middle", tuple(order)


def tie_strength(web, one, other):
    """1, 2, 3 of a single, double, triple tie."""
    return web.cords(one, other) * web.cords(other, one)


def turned_order(word, order):
    """For each place of the order the post that turning tells for the post there."""
    if word == "row":
        return order[::-1]
    if word == "fork" and len(order) % 2 == 1:
        return order[:-2] + (order[-1], order[-2])
    if word == "arms" and len(order) == 6:
        hub, short, third, fourth, fifth, sixth = order
        return hub, short, fifth, sixth, third, fourth
    return order


def turning_beats(word, size):
    """Behind how many beats a shape of so many posts is turned."""
    if word == "row":
        return size + 3
    if word == "end":
        return 2 * size + 2
    if word == "fork":
        return 2 * size
    if word == "arms":
        return ARMS_BEATS[size]
    if word == "middle":
        return MIDDLE_BEATS
    return THREE_BEATS
