"""What the looks have in common: a thing of any sort held beside what is told."""


def same(thing, told):
    """Whether a thing is just what is told: None, a whole number, a text, or a tuple of such."""
    # The sort is asked ahead of ==, by which True is 1, and which a thing may answer as it likes.
    if isinstance(told, tuple):
        if not isinstance(thing, tuple) or len(thing) != len(told):
            return False
        return all([same(one, other) for one, other in zip(thing, told)])
    if isinstance(told, str):
        return isinstance(thing, str) and thing == told
    if told is None:
        return thing is None
    return isinstance(thing, int) and not isinstance(thing, bool) and thing == told


def is_one_of(thing, rows):
    """Whether a thing is one of some rows that are told."""
    return any([same(thing, row) for row in rows])


def is_headed(thing, word, many):
    """Whether a thing is a tuple of so many parts, the first of them a word."""
    return isinstance(thing, tuple) and len(thing) == many and same(thing[0], word)
