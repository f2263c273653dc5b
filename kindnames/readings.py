"""Entries read from the words of their rows: None where a row can't be read."""

from kindnames.book import bad_name
from kindnames.deeds import bad_place
from kindnames.marks import RANKS, read_moment, read_node, read_pair
from kindnames.sayings import bad_saying
from kindnames.words import is_word

SAID = {"some": True, "none": False, "any": None}


def _read_name(moment, words):
    """A name, from the words behind its own."""
    if words[0] not in RANKS:
        return None
    rank = RANKS.index(words[0])
    end = 3 if rank == 0 else 2
    own = tuple(words[1:end])
    sheets = ()
    like = None
    if words[end:end + 1] == ["sheets"]:
        sheets = tuple(words[end + 1:])
    elif words[end:end + 1] == ["like"] and len(words) == end + 2:
        like = read_moment(words[end + 1])
    # One with neither is refused as well: a name has sheets or is like another one.
    if bad_name(rank, own, sheets, like) is not None:
        return None
    return ("name", moment, rank, own, sheets, like)


def _read_choice(moment, words):
    name = read_moment(words[0])
    if name is None or len(words) != 2 or not is_word(words[1]):
        return None
    return ("choice", moment, name, words[1])


def _read_strike(moment, words):
    name = read_moment(words[0])
    if name is None or words[1:] and words[1:] != ["wholly"]:
        return None
    return ("strike", moment, name, len(words) == 2)


def _read_ahead(moment, words):
    names = [read_moment(word) for word in words]
    if len(names) != 2 or None in names:
        return None
    return ("ahead", moment, names[0], names[1])


def _read_deed(words):
    """A deed, or what is none."""
    if words[0] == "put" and words[-3:-2] == ["into"]:
        return ("put", tuple(words[1:-3]), read_node(words[-2:]))
    if words[0] == "out":
        return ("out", tuple(words[1:]))
    if words[0] == "take":
        return tuple(words)
    if words[0] == "move" and words[3:] == ["nowhere"]:
        return ("move", read_node(words[1:3]), None)
    # A second node that can't be read must not be taken for nowhere.
    other = read_node(words[3:])
    return None if other is None else (words[0], read_node(words[1:3]), other)


def _parted(words):
    """Words parted at each semicolon."""
    parts = [[]]
    for word in words:
        if word == ";":
            parts.append([])
        else:
            parts[-1].append(word)
    return parts


def _read_page(moment, words):
    """A page, from the words behind its own."""
    parts = _parted(words)
    if len(parts[0]) != 1 or not is_word(words[0]) or [] in parts:
        return None
    deeds = tuple([_read_deed(part) for part in parts[1:]])
    return None if bad_place(deeds) is not None else ("page", moment, words[0], deeds)


def _read_saying(moment, words):
    """A saying, from the words behind its own."""
    if len(words) != 12 or not all([word in SAID for word in words[9:]]):
        return None
    one, other = [(words[at], read_pair(words[at + 1]), read_node(words[at + 2:at + 4])) for at in (1, 5)]
    both, first, second = [SAID[word] for word in words[9:]]
    if bad_saying(words[0], one, other, both, first, second) is not None:
        return None
    return ("saying", moment, words[0], one, other, both, first, second)


READERS = {
    "name": _read_name,
    "choose": _read_choice,
    "strike": _read_strike,
    "ahead": _read_ahead,
    "page": _read_page,
    "say": _read_saying,
}


def read_words(words):
    """The record of an entry, from the words of its row, or None."""
    moment = read_moment(words[0])
    # Behind a sort there is always a word more.
    if moment is None or len(words) < 3 or words[1] not in READERS:
        return None
    reader = READERS[words[1]]
    return reader(moment, words[2:])
