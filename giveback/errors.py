"""All refusals, each straight under one of Python's own error classes, with its fields."""

from giveback.wholes import copied


class NoWeb(ValueError):
    """What is no web: `part` is size or ties."""

    def __init__(self, part):
        ValueError.__init__(self, "no web")
        self.part = part


class NoStanding(ValueError):
    """What is no standing: `part` is standing or numbers."""

    def __init__(self, part):
        ValueError.__init__(self, "no standing")
        self.part = part


class NoPart(ValueError):
    """What is no part of the web: `posts` as handed in."""

    def __init__(self, posts):
        ValueError.__init__(self, "no part of the web")
        self.posts = copied(posts)


class NoDebts(ValueError):
    """Debts that aren't as told, or two that don't go together: their places."""

    def __init__(self, one, other):
        ValueError.__init__(self, "no such debts")
        self.one = one
        self.other = other


class NoCords(ValueError):
    """Cords that aren't as told, or two that cross: their half and places."""

    def __init__(self, half, one, other):
        ValueError.__init__(self, "no such cords")
        self.half = half
        self.one = one
        self.other = other


class NoLots(ValueError):
    """What is no lots, or two that don't fold: their places."""

    def __init__(self, one, other):
        ValueError.__init__(self, "no such lots")
        self.one = one
        self.other = other


class NotAlike(ValueError):
    """A post that is unlike the first one of its lot."""

    def __init__(self, post):
        ValueError.__init__(self, "not alike within a lot")
        self.post = post


class NoText(ValueError):
    """What is no text of what is read: `asked` as handed in."""

    def __init__(self, asked):
        ValueError.__init__(self, "no such text")
        self.asked = copied(asked)


class NoAsk(ValueError):
    """What is no row that the desk answers: `asked` as handed in."""

    def __init__(self, asked):
        ValueError.__init__(self, "no such row")
        self.asked = copied(asked)


class NoNumber(ValueError):
    """What is no number to put: `number` as handed in."""

    def __init__(self, number):
        ValueError.__init__(self, "no such number")
        self.number = copied(number)


class NoBeats(ValueError):
    """What is no number of beats: `beats` as handed in."""

    def __init__(self, beats):
        ValueError.__init__(self, "no such beats")
        self.beats = copied(beats)


class NoSight(ValueError):
    """The place of the first that is no sight, None of no list."""

    def __init__(self, number):
        ValueError.__init__(self, "no such sight")
        self.number = number


class NoPost(KeyError):
    """What is no post of the web: `post` as handed in."""

    def __init__(self, post):
        KeyError.__init__(self, "no such post")
        self.post = copied(post)


class NoTie(KeyError):
    """What is no tie of the web, or none that can be tied: `tie`."""

    def __init__(self, tie):
        KeyError.__init__(self, "no such tie")
        self.tie = copied(tie)


class NoDeed(LookupError):
    """There is no deed to take back."""


class NoDeeds(LookupError):
    """What is no number of deeds that stand: `asked` as handed in."""

    def __init__(self, asked):
        LookupError.__init__(self, "no such deeds")
        self.asked = copied(asked)


class NotAll(LookupError):
    """A part that isn't of the kind all: `posts`, a tuple."""

    def __init__(self, posts):
        LookupError.__init__(self, "not of the kind all")
        self.posts = posts


class NotWaves(LookupError):
    """A part that isn't of waves: `posts`, a tuple."""

    def __init__(self, posts):
        LookupError.__init__(self, "not of waves")
        self.posts = posts


class TooGreat(ArithmeticError):
    """The numbers grow too great on the way: behind so many `beats`."""

    def __init__(self, beats):
        ArithmeticError.__init__(self, "too great")
        self.beats = beats


class Full(ArithmeticError):
    """The works can't hold what stands behind so many `beats`."""

    def __init__(self, beats):
        ArithmeticError.__init__(self, "full")
        self.beats = beats


class TooMany(RuntimeError):
    """More than are gone through: `many`."""

    def __init__(self, many):
        RuntimeError.__init__(self, "too many")
        self.many = many
