"""Rows of posts as rings: the debts of a row's standing are cords that don't cross, and a beat turns them."""

from giveback.debts import debts_of, sum_of_singles
from giveback.errors import NoBeats, NoCords
from giveback.webs import Web, need_post, need_size
from giveback.wholes import is_between, is_whole_row


def row_web(size):
    """The web of so many posts of which each is tied to the next one."""
    need_size(size)
    return Web(size, [(post, post + 1, 1, 1) for post in range(size - 1)])


def cord_at(size, post, beat):
    """(half, low, high): the cord of the debt of a post at a beat."""
    need_post(row_web(size), post)
    if not is_between(beat, 0, size + 2):
        raise NoBeats(beat)
    return cord_of_debt(size, post, beat)


def cords_of(size, standing):
    """The cords (low, high, many) of a row's standing, a list for each half."""
    halves = ([], [])
    for beat, post, owed in debts_of(row_web(size), standing):
        half, low, high = cord_of_debt(size, post, beat)
        halves[half].append((low, high, owed))
    return sorted(halves[0]), sorted(halves[1])


def standing_by(size, cords):
    """The standing of a row that has just these cords."""
    web = row_web(size)
    need_cords(size, cords)
    places = {cord_of_debt(size, post, beat): (beat, post) for post in range(size) for beat in range(size + 3)}
    debts = []
    for half, row in enumerate(cords):
        for low, high, many in row:
            beat, post = places[(half, low, high)]
            debts.append((beat, post, many))
    return sum_of_singles(web, debts)


def turned_cords(size, cords):
    """The cords behind a beat."""
    need_size(size)
    need_cords(size, cords)
    first, second = cords
    turned = [joining(size, low + 1, high + 1) + (many,) for low, high, many in second]
    return sorted(turned), sorted(first)


def cord_of_debt(size, post, beat):
    """(half, low, high) of a post and a beat that are as told."""
    half = (post + beat) % 2
    middle = -((beat + half) // 2)
    return (half,) + joining(size, middle - (post + 1) // 2, middle + 2 + post // 2)


def joining(size, one, other):
    """(low, high): the corners of the ring that two numbers come to by rests."""
    low, high = sorted([one % (size + 3), other % (size + 3)])
    return low, high


def need_cords(size, cords):
    """Refuse what are no cords of a row, and cords that cross."""
    fault = cords_fault(size, cords)
    if fault is not None:
        half, one, other = fault
        raise NoCords(half, one, other)


def cords_fault(size, cords):
    """(half, one, other): what is wrong with cords of a row of so many posts, None where nothing is."""
    if not isinstance(cords, tuple) or len(cords) != 2:
        return None, None, None
    for half, row in enumerate(cords):
        fault = row_fault(size, row)
        if fault is not None:
            return (half,) + fault
    return None


def row_fault(size, row):
    """(one, other): the places of what is wrong with the cords of one half, None where nothing is."""
    if not isinstance(row, (list, tuple)):
        return None, None
    for one, cord in enumerate(row):
        if not is_cord(size, cord):
            return one, None
    for one in range(len(row)):
        for other in range(one + 1, len(row)):
            if are_crossed(row[one], row[other]):
                return one, other
    return None


def is_cord(size, thing):
    """Whether thing is a cord (low, high, many) of a ring, of two corners that aren't neighbours."""
    if not is_whole_row(thing, 3):
        return False
    low, high, many = thing
    return 0 <= low and low + 2 <= high <= size + 2 and high - low <= size + 1 and many >= 1


def are_crossed(one, other):
    """Whether two cords cross or join the same corners."""
    first, second = sorted([one, other])
    low, high, _ = first
    below, above, _ = second
    if low == below:
        return high == above
    return below < high < above
