"""The forms of what is handed in, each asked of anything: words, moments, pairs, nodes, lists."""

LETTERS = "abcdefghijklmnopqrstuvwxyz"
MOST_LETTERS = 12
MOST_RANK = 5
MOST = 10 ** 12


def is_number(thing, low, high):
    """Whether a thing is a whole number from low to high."""
    # A truth is an int for Python, and is none here.
    return isinstance(thing, int) and not isinstance(thing, bool) and low <= thing <= high


def is_word(thing):
    """Whether a thing is a text of one to twelve letters, a to z."""
    if not isinstance(thing, str) or not 1 <= len(thing) <= MOST_LETTERS:
        return False
    return all([sign in LETTERS for sign in thing])


def is_moment(thing):
    """Whether a thing is a moment: (day, page), day from 0 and page from 1 on."""
    if not isinstance(thing, tuple) or len(thing) != 2:
        return False
    return is_number(thing[0], 0, MOST) and is_number(thing[1], 1, MOST)


def is_pair(thing):
    """Whether a thing is a pair up to which may be asked: (day, page), both from 0 on."""
    if not isinstance(thing, tuple) or len(thing) != 2:
        return False
    return is_number(thing[0], 0, MOST + 1) and is_number(thing[1], 0, MOST + 1)


def is_node(thing):
    """Whether a thing is a node: (rank, word), rank from 0 to 5."""
    if not isinstance(thing, tuple) or len(thing) != 2:
        return False
    return is_number(thing[0], 0, MOST_RANK) and is_word(thing[1])


def is_list(thing):
    """Whether a thing may stand where a list is named: a tuple may, too."""
    return isinstance(thing, (list, tuple))


def are_sheets(thing):
    """Whether a thing is a list of one or more unlike words."""
    if not is_list(thing) or len(thing) == 0 or not all([is_word(sheet) for sheet in thing]):
        return False
    return len(set(thing)) == len(thing)
