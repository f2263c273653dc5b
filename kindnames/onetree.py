"""One tree that keeps several trees, or sheets that no tree parts as these do, and the looks at both."""

from kindnames.rows import Rows, tied
from kindnames.words import is_list, is_number, is_word


def one_tree(trees):
    """The groups of the tree that parts by the trees' rows alone; or sheets that these rows tie together."""
    rows = Rows(trees)
    groups = []
    waiting = [rows.sheets()]
    while waiting:
        sheets = waiting.pop()
        if len(sheets) > 1:
            parts, used = tied(sheets, rows.within(sheets))
            if len(parts) == 1:
                return ("none", sheets, used)
            groups.append(tuple(sheets))
            waiting.extend(parts)
    return ("tree", sorted(groups))


def _are_rising(things, many):
    """Whether things are so many words or more, rising."""
    if len(things) < many or not all([is_word(thing) for thing in things]):
        return False
    return all([one < two for one, two in zip(things, things[1:])])


def _are_groups(thing):
    """Whether a thing is a list of rising tuples of two and more words."""
    return is_list(thing) and all([isinstance(group, tuple) and _are_rising(group, 2) for group in thing])


def _lie_well(one, two):
    """Whether two groups are nested or apart."""
    shared = len([sheet for sheet in one if sheet in two])
    return shared in (0, len(one), len(two))


def keeps_all(trees, groups):
    """Whether a thing is a list of groups, nested or apart, that keep all rows of the trees."""
    if not _are_groups(groups) or not all([_lie_well(one, two) for one in groups for two in groups]):
        return False
    return Rows(trees).are_kept(groups)


def _is_row(row, rows, many, sheets):
    """Whether a thing is a row of so many trees, its sheets among some."""
    if not isinstance(row, tuple) or len(row) != 4 or not is_number(row[3], 0, many - 1):
        return False
    # The form is asked first: what is equal to a sheet may be none.
    if not all([is_word(sheet) and sheet in sheets for sheet in row[:3]]):
        return False
    return rows.has(row)


def shows_no_tree(trees, sheets, rows):
    """Whether things are three sheets and more, and rows of the trees that tie them all, one fewer."""
    if not is_list(sheets) or not _are_rising(sheets, 3) or not is_list(rows) or len(rows) != len(sheets) - 1:
        return False
    told = Rows(trees)
    if not all([_is_row(row, told, len(trees), sheets) for row in rows]):
        return False
    parts, _ = tied(sheets, rows)
    return len(parts) == 1
