"""Printed kinds: what a mind's kind is called, its right name and the rows of its paper, as text."""

from kindnames.called import called
from kindnames.errors import NoNode, Unread
from kindnames.marks import read_moment, read_pair, show_node, show_pair
from kindnames.rightpapers import right_paper, shows_right
from kindnames.words import is_node, is_word


def _show_row(row):
    """A row of a paper as a row of text."""
    name, reason, thing = row
    shown = thing if reason == "elsewhere" else show_pair(thing)
    return f"{show_pair(name)} {reason} {shown}"


def printed(house, mind, node, *, upto):
    """A mind's kind up to a pair as rows of text."""
    if not is_node(node) or node[0] != 0:
        raise NoNode(node)
    tree = house.tree(mind, upto=upto)
    book = house.book()
    words = called(book, tree, node, upto=upto)
    paper = right_paper(book, tree, node, upto=upto)
    rows = [
        f"{show_node(node)} of {mind} up to {show_pair(upto)}",
        "not called" if words is None else f"called {words[0]} {words[1]}",
        "none right" if paper[0] == "none" else f"right {show_pair(paper[1])}",
    ]
    return "\n".join(rows + [_show_row(row) for row in paper[-1]])


def _read_kind(row):
    """The mind, pair and node of the first row, or None."""
    words = row.split(" ")
    if len(words) != 7 or words[0] != "kind" or words[2] != "of" or words[4:6] != ["up", "to"]:
        return None
    pair = read_pair(words[6])
    if not is_word(words[1]) or not is_word(words[3]) or pair is None:
        return None
    return (words[3], pair, (0, words[1]))


def _read_called(row):
    """What a kind is called by the second row, in a tuple of its own, or None."""
    words = row.split(" ")
    if words == ["not", "called"]:
        return (None,)
    if len(words) != 3 or words[0] != "called" or not is_word(words[1]) or not is_word(words[2]):
        return None
    return ((words[1], words[2]),)


def _read_right(row):
    """The right name of the third row, in a tuple of its own, or None."""
    words = row.split(" ")
    if words == ["none", "right"]:
        return (None,)
    if len(words) != 2 or words[0] != "right" or read_moment(words[1]) is None:
        return None
    return (read_moment(words[1]),)


def _read_row(row):
    """The row of a paper that a row of text writes, or None."""
    words = row.split(" ")
    name = read_moment(words[0])
    reason = " ".join(words[1:-1])
    if name is None or reason not in ("elsewhere", "struck", "taken", "barred", "gives way"):
        return None
    if reason == "elsewhere":
        return (name, reason, words[-1]) if is_word(words[-1]) else None
    thing = read_moment(words[-1])
    return None if thing is None else (name, reason, thing)


def _read_rows(rows):
    """The rows of a paper, rising by names."""
    told = []
    for row in rows:
        read = _read_row(row)
        if read is None or told and not told[-1][0] < read[0]:
            raise Unread(row)
        told.append(read)
    return told


HEADS = (_read_kind, _read_called, _read_right)


def _read_heads(rows):
    """What the first three of some rows write."""
    told = []
    for reader, row in zip(HEADS, rows):
        read = reader(row)
        if read is None:
            raise Unread(row)
        told.append(read)
    if len(told) < len(HEADS):
        raise Unread("")
    return told


def read_printed(text):
    """The mind, pair, node, words or None, and paper that a text writes."""
    if not isinstance(text, str):
        raise Unread(text)
    rows = text.split("\n")
    kind, words, best = _read_heads(rows)
    told = _read_rows(rows[len(HEADS):])
    return (*kind, words[0], ("right", best[0], told) if best[0] is not None else ("none", told))


def shows_printed(house, text):
    """Whether a thing is a true printed kind of a house."""
    try:
        told = read_printed(text)
    except Unread:
        return False
    mind, pair, node, words, paper = told
    tree = house.tree(mind, upto=pair)
    if node not in tree.nodes():
        return False
    book = house.book()
    return called(book, tree, node, upto=pair) == words and shows_right(book, tree, node, paper, upto=pair)
