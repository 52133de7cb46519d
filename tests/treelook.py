"""A second look at case trees, straight by the words of [50], and trees written otherwise."""

from giveback.shapes import part_home_beats
from giveback.webs import lots_of


def readings(web, posts, half):
    """(posts that are read, posts that change then) of each step."""
    lots = lots_of(web, posts)
    for step in range(part_home_beats(web, posts)):
        yield lots[(half + step) % 2], lots[(half + step + 1) % 2]


def rule_broken(web, posts, half, tree):
    """What of the words of [50] a told tree breaks, None where it is such a tree."""
    steps = list(readings(web, posts, half))
    own = {post: tuple(int(k == post) for k in posts) for post in posts}
    seen = [0] * len(tree)
    ways = [(0, 0, 0, own, [], [])]
    while ways:
        number, step, asked, sums, above, known = ways.pop()
        seen[number] += 1
        while step < len(steps) and asked == len(steps[step][0]) * (len(posts) > 1):
            sums = changed(web, steps[step][1], sums, above)
            step, asked, above = step + 1, 0, []
        node = tree[number]
        if step == len(steps):
            if node != ("back",) or sums != own:
                return number, "no end"
            continue
        post = steps[step][0][asked]
        contrary = tuple(-n for n in sums[post])
        if node[0] == "split" and len(node) == 3 and all(type(k) is int and number < k < len(tree) for k in node[1:]):
            ways.append((node[1], step, asked + 1, sums, above + [post], known + [sums[post]]))
            ways.append((node[2], step, asked + 1, sums, above, known + [contrary]))
            continue
        if node[0] not in ("above", "below") or len(node) != 4:
            return number, "no such node"
        _, many, terms, ahead = node
        if not is_made(sums[post] if node[0] == "above" else contrary, many, terms, known):
            return number, "does not follow"
        if type(ahead) is not int or not number < ahead < len(tree):
            return number, "no later node"
        ways.append((ahead, step, asked + 1, sums, above + [post] if node[0] == "above" else above, known))
    return None if seen == [1] * len(tree) else "not each once"


def changed(web, posts, sums, above):
    """The sums behind a step in which these posts change."""
    new = dict(sums)
    for post in posts:
        new[post] = tuple(
            sum(web.cords(one, post) * sums[one][k] for one in above) - own for k, own in enumerate(sums[post]))
    return new


def is_made(total, many, terms, known):
    """Whether so many times the sum is what the terms tell of the known ones."""
    if type(many) is not int or many < 1 or type(terms) is not tuple:
        return False
    if not all(type(term) is tuple and [type(k) for k in term] == [int, int] for term in terms):
        return False
    numbers = [number for number, _ in terms]
    if numbers != sorted(set(numbers)) or not all(0 <= number < len(known) for number in numbers):
        return False
    if not all(times >= 1 for _, times in terms):
        return False
    made = [sum(times * known[number][k] for number, times in terms) for k in range(len(total))]
    return made == [many * n for n in total]


def numbered(tree, chance):
    """The same tree with its nodes numbered otherwise, each behind the one that leads to it."""
    order = []
    waiting = [0]
    while waiting:
        node = waiting.pop(chance.randrange(len(waiting)))
        order.append(node)
        waiting.extend(behind(tree[node]))
    places = {node: place for place, node in enumerate(order)}
    return [led_to(tree[node], [places[other] for other in behind(tree[node])]) for node in order]


def behind(node):
    """The numbers of the nodes that come next."""
    return list(node[1:]) if node[0] == "split" else [] if node[0] == "back" else [node[3]]


def led_to(node, numbers):
    """The same node with other ones next."""
    return ("split", *numbers) if node[0] == "split" else node if node[0] == "back" else node[:3] + tuple(numbers)
