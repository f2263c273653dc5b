"""The refusals of the program, each with what it was that was refused."""


class BadMoment(ValueError):
    """What is told as a moment is none."""

    def __init__(self, moment):
        self.moment = moment


class BadName(ValueError):
    """A part of a published name is not as told."""

    def __init__(self, part):
        self.part = part


class BadTree(ValueError):
    """A part that a tree is made of is not as told."""

    def __init__(self, part):
        self.part = part


class BadPage(ValueError):
    """A deed of a page, or the page itself (place -1), is not as told."""

    def __init__(self, place):
        self.place = place


class BadFrame(ValueError):
    """A part that a frame is made of is not as told."""

    def __init__(self, part):
        self.part = part


class BadSaying(ValueError):
    """A part of a saying is not as told."""

    def __init__(self, part):
        self.part = part


class Unread(ValueError):
    """A row of text that can't be read."""

    def __init__(self, row):
        self.row = row


class NoName(KeyError):
    """No name is there that was published at this moment."""

    def __init__(self, moment):
        self.moment = moment


class NoEntry(KeyError):
    """No entry stands at this moment."""

    def __init__(self, moment):
        self.moment = moment


class NoNode(KeyError):
    """A node that is not in the tree, or not born in the line."""

    def __init__(self, node):
        self.node = node


class NoSheet(KeyError):
    """A sheet that the name does not have."""

    def __init__(self, sheet):
        self.sheet = sheet


class BadSide(KeyError):
    """A side that the frame does not have."""

    def __init__(self, side):
        self.side = side


class SameMoment(LookupError):
    """An entry stands at this moment already."""

    def __init__(self, moment):
        self.moment = moment


class Later(LookupError):
    """What is named is not elder than what names it."""

    def __init__(self, moment):
        self.moment = moment


class Unfit(RuntimeError):
    """The name of this moment is not one that can be named here."""

    def __init__(self, moment):
        self.moment = moment


class Needed(RuntimeError):
    """An entry that another one names can't be dropped."""

    def __init__(self, moment, by):
        self.moment = moment
        self.by = by


class TooMany(ArithmeticError):
    """There are more places than a frame may have."""

    def __init__(self, many):
        self.many = many
