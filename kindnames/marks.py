"""How pairs, moments and nodes are written in rows of text, and read."""

from kindnames.words import is_moment, is_pair, is_word

RANKS = ("kind", "family", "group2", "group3", "group4", "group5")
FIGURES = "0123456789"
# As many as the greatest number has.
MOST_FIGURES = 13


def show_pair(pair):
    """A pair, or a moment, as a word."""
    return f"{pair[0]}.{pair[1]}"


def show_node(node):
    """A node as two words."""
    return f"{RANKS[node[0]]} {node[1]}"


def _is_number(word):
    """Whether a word writes a whole number by figures, without a nought ahead."""
    if not 1 <= len(word) <= MOST_FIGURES or not all([sign in FIGURES for sign in word]):
        return False
    return word == "0" or word[0] != "0"


def read_pair(word):
    """The pair that a word writes, or None."""
    day, _, page = word.partition(".")
    if not _is_number(day) or not _is_number(page):
        return None
    pair = (int(day), int(page))
    return pair if is_pair(pair) else None


def read_moment(word):
    """The moment that a word writes, or None."""
    pair = read_pair(word)
    return pair if is_moment(pair) else None


def read_node(words):
    """The node that two words write, or None where they are none."""
    if len(words) != 2 or words[0] not in RANKS or not is_word(words[1]):
        return None
    return (RANKS.index(words[0]), words[1])
