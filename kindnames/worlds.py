"""Worlds of a frame and sayings, or the clashes that leave none, and the looks at both."""

from kindnames.cases import Case
from kindnames.looks import same
from kindnames.words import is_list


def _row(case, place):
    """The row of a struck place: it, with the first part of a saying that strikes it."""
    taken = case.taken([place])
    for number, part, struck in case.strikes():
        if struck & taken:
            return (place, number, part)
    return None


def world(frame, sayings):
    """All places that no saying strikes, where they are a world; else a need of which none is left."""
    case = Case(frame, sayings)
    left = case.left()
    lacking = case.lacking(left)
    if lacking is None:
        return ("world", case.places(left))
    need, wanted = lacking
    return ("clash", need, [_row(case, place) for place in case.places(wanted)])


def shows_world(frame, sayings, places):
    """Whether a thing is a list of places that is a world."""
    case = Case(frame, sayings)
    taken = case.taken(places) if is_list(places) else None
    if taken is None or taken & ~case.left():
        return False
    return case.lacking(taken) is None


def _is_struck(row, case, place):
    """Whether a thing is a row of a place, with a part of a saying that strikes it."""
    if not isinstance(row, tuple) or len(row) != 3 or not same(row[0], place):
        return False
    taken = case.taken([place])
    for number, part, struck in case.strikes():
        if struck & taken and same(row[1:], (number, part)):
            return True
    return False


def shows_clash(frame, sayings, need, rows):
    """Whether things are a need, and rows of all places of it, each struck."""
    case = Case(frame, sayings)
    for told, wanted in case.needs():
        if same(need, told):
            places = case.places(wanted)
            if not is_list(rows) or len(rows) != len(places):
                return False
            return all([_is_struck(row, case, place) for row, place in zip(rows, places)])
    return False
