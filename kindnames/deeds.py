"""Deeds of a page: their forms, what each of them names, and the copies that are kept."""

from kindnames.words import are_sheets, is_node, is_word


def _is_join(one, other):
    return is_node(one) and is_node(other) and one != other and one[0] == other[0]


def _is_put(sheets, kind):
    return are_sheets(sheets) and is_node(kind) and kind[0] == 0


def _is_move(node, outer):
    return is_node(node) and (outer is None or is_node(outer) and outer[0] > node[0])


def is_deed(thing):
    """Whether a thing is a deed by itself."""
    if not isinstance(thing, tuple) or len(thing) not in (2, 3) or not isinstance(thing[0], str):
        return False
    word = thing[0]
    if len(thing) == 2:
        return word == "take" and is_word(thing[1]) or word == "out" and are_sheets(thing[1])
    if word == "join":
        return _is_join(thing[1], thing[2])
    if word == "put":
        return _is_put(thing[1], thing[2])
    return word == "move" and _is_move(thing[1], thing[2])


def _marks(deed):
    """What no other deed of the page may have as well."""
    if deed[0] == "take":
        return [("take", "")]
    if deed[0] in ("put", "out"):
        return [("sheet", sheet) for sheet in deed[1]]
    return [("move", deed[1])] if deed[0] == "move" else []


def bad_place(deeds):
    """The place of the first of some deeds that can't stand there, or None."""
    seen = {}
    for place, deed in enumerate(deeds):
        if not is_deed(deed):
            return place
        marks = _marks(deed)
        if any([mark in seen for mark in marks]):
            return place
        for mark in marks:
            seen[mark] = True
    return None


def kept(deeds):
    """A copy of deeds that nobody can change."""
    told = []
    for deed in deeds:
        if deed[0] in ("put", "out"):
            told.append((deed[0], tuple(deed[1]), *deed[2:]))
        else:
            told.append(deed)
    return tuple(told)


def taken(deeds):
    """The mind that deeds take, or None."""
    for deed in deeds:
        if deed[0] == "take":
            return deed[1]
    return None


def nodes_named(deed):
    """The nodes that a deed names."""
    if deed[0] == "put":
        return [deed[2]]
    if deed[0] in ("join", "move"):
        return [node for node in deed[1:] if node is not None]
    return []
