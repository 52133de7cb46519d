"""What several files need of things that are handed in: whole numbers told from others, and copies."""


def is_whole(thing):
    """Whether thing is a whole number; a truth is none."""
    return isinstance(thing, int) and not isinstance(thing, bool)


def is_between(thing, low, high):
    """Whether thing is a whole number from low to high."""
    return is_whole(thing) and low <= thing <= high


def is_whole_row(thing, many):
    """Whether thing is a tuple of so many whole numbers."""
    return isinstance(thing, tuple) and len(thing) == many and all([is_whole(number) for number in thing])


def copied(thing):
    """Another thing just like it, so that nobody's later change of the one is seen in the other."""
    # The open holders are kept in a list, as what is handed in may lie deeper than calls may.
    frames = [([], [thing], [])]
    while True:
        holder, members, done = frames[-1]
        if len(done) < len(members):
            member = members[len(done)]
            if isinstance(member, (list, tuple, dict)):
                frames.append((member, members_of(member), []))
            else:
                done.append(member)
        elif len(frames) == 1:
            return done[0]
        else:
            frames.pop()
            frames[-1][2].append(filled_like(holder, done))


def members_of(holder):
    """A list of what a list, tuple or dict holds; of a dict without the keys, which can't change."""
    if isinstance(holder, dict):
        return list(holder.values())
    return list(holder)


def filled_like(holder, members):
    """A new list, tuple or dict like holder, with these members in place of its own."""
    if isinstance(holder, dict):
        return {key: member for key, member in zip(holder, members)}
    if isinstance(holder, tuple):
        return tuple(members)
    return list(members)
