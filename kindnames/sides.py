"""How two nodes of two trees lie to one another, by the sheets that both trees place."""


def _word(both, first, second):
    """The word for how two nodes lie that have sheets in both, in the first alone, in the second alone."""
    if not both and (not first or not second):
        return "nothing"
    if not both:
        return "apart"
    if first:
        return "cross" if second else "round"
    return "within" if second else "same"


def lie(one, node, two, other):
    """How a node of a tree and a node of another one lie, with a sheet for each part."""
    # Asked for their refusals alone: of None the sheets would be those of the whole tree.
    one.parent(node)
    two.parent(other)
    mine = [sheet for sheet in one.sheets(node) if two.kind_of(sheet) is not None]
    theirs = [sheet for sheet in two.sheets(other) if one.kind_of(sheet) is not None]
    both = [sheet for sheet in mine if sheet in theirs]
    first = [sheet for sheet in mine if sheet not in theirs]
    second = [sheet for sheet in theirs if sheet not in mine]
    parts = [part[0] if part else None for part in [both, first, second]]
    return (_word(both, first, second), *parts)
