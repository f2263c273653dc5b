"""Choices of bearers: which name is right by one, by some, by each, and the looks at the papers of that."""

from kindnames.looks import is_headed, is_one_of, same
from kindnames.options import Options
from kindnames.words import is_list, is_moment


def _asked(book, tree, node, name, upto):
    options = Options(book, tree, node, upto)
    options.refuse(name)
    return options


def _plain_whys(options, name):
    """What stands against a name by each choice and by itself, in order, each with all things by which it is so."""
    return [
        ("elsewhere", [] if options.inside(name) else [None]),
        ("struck", options.strikes(name)),
        ("taken", options.takers(name)),
        ("barred", options.sure_bars(name)),
    ]


def _first_why(options, name):
    """The first of these, with the first thing by which it is so, or None."""
    for why, things in _plain_whys(options, name):
        if things:
            return (why, things[0])
    return None


def _bar_rows(options, wanted):
    """A row for each base that must have no sheet of the family lest it bar the wanted name."""
    rows = []
    for rival in options.rivals(wanted):
        base = options.base(rival)
        if base not in [row[0] for row in rows]:
            rows.append((base, "bars", rival))
    return rows


def _is_loose(options, name, wanted, out):
    """Whether a name is fit by each choice by which it is in the node, the wanted one is, and some bases are out."""
    return options.is_free(name) and options.is_unbarred(name, wanted, out)


def _stays(options, name, wanted):
    """Whether a name is in the node by each choice by which the wanted one is."""
    return options.base(name) == options.base(wanted) or not options.outside(name)


def _is_pushed(options, base):
    """Whether a base that isn't to be in the node can't be in the family either."""
    return options.has_bars() and all([sheet in options.inside(base) for sheet in options.related(base)])


def _next_row(options, wanted, out):
    """One more base that must have no sheet of the family, lest a loose elder name of it be in the node, or None."""
    for name in options.elder(wanted):
        base = options.base(name)
        if base in out or not options.inside(base) or _stays(options, name, wanted):
            continue
        if _is_pushed(options, base) and _is_loose(options, name, wanted, out):
            return (base, "elder", name)
    return None


def _all_rows(options, wanted):
    """Rows for all bases that must have no sheet of the family."""
    rows = _bar_rows(options, wanted)
    row = _next_row(options, wanted, [each[0] for each in rows])
    while row is not None:
        rows.append(row)
        row = _next_row(options, wanted, [each[0] for each in rows])
    return rows


def _first_elder(options, wanted, rows):
    """The first elder name that is fit by each choice by which the wanted one is in the node, or None."""
    out = [row[0] for row in rows]
    for name in options.elder(wanted):
        if _stays(options, name, wanted) and _is_loose(options, name, wanted, out):
            return name
    return None


def _best_sheet(options, base, out):
    """The bearer of a base by which least stands against the wanted name."""
    if base in out:
        return options.strange(base)[0]
    # One in the family bars others, which lets the wanted one be right, and one outside of the node is not fit itself.
    related = [sheet for sheet in options.related(base) if sheet in options.outside(base)]
    if options.has_bars():
        return (related + options.related(base) + options.bearers(base))[0]
    return (options.outside(base) + options.bearers(base))[0]


def _good_choice(options, wanted, rows):
    """A choice by which a name is right that no elder one keeps from being so."""
    out = [row[0] for row in rows]
    choice = {base: _best_sheet(options, base, out) for base in options.bases() if base != options.base(wanted)}
    choice[options.base(wanted)] = options.inside(wanted)[0]
    return choice


def _choice_with(options, fixed):
    """A choice that gives some bases told sheets."""
    return {base: fixed.get(base, options.bearers(base)[0]) for base in options.bases()}


def _bad_choice(options, wanted):
    """A choice by which a name isn't right, None where it is by each."""
    if not options.is_free(wanted):
        return _choice_with(options, {})
    if options.outside(wanted):
        return _choice_with(options, {options.base(wanted): options.outside(wanted)[0]})
    for rival in options.rivals(wanted):
        if options.related(rival):
            return _choice_with(options, {options.base(rival): options.related(rival)[0]})
    for name in options.elder(wanted):
        if _first_why(options, name) is None:
            fixed = {options.base(rival): options.strange(rival)[0] for rival in options.rivals(name)}
            fixed[options.base(name)] = options.inside(name)[0]
            return _choice_with(options, fixed)
    return None


def right_by(book, tree, node, choice, *, upto=None):
    """The right name of a node by a choice, or None."""
    return Options(book, tree, node, upto).right_by(choice)


def may_be_right(book, tree, node, name, *, upto=None):
    """The paper of a name: a choice by which it is right in a node, or why there is none."""
    options = _asked(book, tree, node, name, upto)
    why = _first_why(options, name)
    if why is not None:
        return ("never", *why, [])
    rows = _all_rows(options, name)
    elder = _first_elder(options, name, rows)
    if elder is not None:
        return ("never", "elder", elder, rows)
    return ("may", _good_choice(options, name, rows))


def must_be_right(book, tree, node, name, *, upto=None):
    """The paper of a name: that it is right in a node by each choice, or one by which it isn't."""
    options = _asked(book, tree, node, name, upto)
    choice = _bad_choice(options, name)
    if choice is not None:
        return ("not", choice)
    return ("must", [(elder, *_first_why(options, elder)) for elder in options.elder(name)])


def _is_choice(thing, options):
    """Whether a thing is a choice of all bases."""
    bases = options.bases()
    if not isinstance(thing, dict) or len(thing) != len(bases):
        return False
    # The form is asked first: (True, 1) is equal to (1, 1).
    if not all([is_moment(base) and base in bases for base in thing]):
        return False
    return all([is_one_of(sheet, options.bearers(base)) for base, sheet in thing.items()])


def _lets(options, whys, things):
    """Whether some things are one of the whys that are so, with one of the things by which it is."""
    told = []
    for why, known in whys:
        told = told + [(why, thing) for thing in known]
    return is_one_of(things, told)


def _shows_row(row, options, wanted, out):
    """Whether a thing is a row of a base that must have no sheet of the family, where some bases are out already."""
    if not isinstance(row, tuple) or len(row) != 3 or not is_one_of(row[2], options.elder(wanted)):
        return False
    base = options.base(row[2])
    if not same(row[0], base) or base in out or base == options.base(wanted):
        return False
    if same(row[1], "bars"):
        return row[2] in options.rivals(wanted)
    return same(row[1], "elder") and _is_pushed(options, base) and _is_loose(options, row[2], wanted, out)


def _shows_elder(name, rows, options, wanted):
    """Whether a thing is an elder name that keeps the wanted one from being right by another thing, its rows."""
    if not is_list(rows) or not is_one_of(name, options.elder(wanted)):
        return False
    out = []
    for row in rows:
        if not _shows_row(row, options, wanted, out):
            return False
        out.append(row[0])
    return _stays(options, name, wanted) and _is_loose(options, name, wanted, out)


def shows_may(book, tree, node, name, paper, *, upto=None):
    """Whether a thing is a paper of whether a name may be right."""
    options = _asked(book, tree, node, name, upto)
    if is_headed(paper, "may", 2):
        return _is_choice(paper[1], options) and options.right_by(paper[1]) == name
    if not is_headed(paper, "never", 4):
        return False
    if same(paper[1], "elder"):
        return _shows_elder(paper[2], paper[3], options, name)
    return is_list(paper[3]) and len(paper[3]) == 0 and _lets(options, _plain_whys(options, name), paper[1:3])


def shows_must(book, tree, node, name, paper, *, upto=None):
    """Whether a thing is a paper of whether a name must be right."""
    options = _asked(book, tree, node, name, upto)
    if is_headed(paper, "not", 2):
        return _is_choice(paper[1], options) and options.right_by(paper[1]) != name
    if not is_headed(paper, "must", 2) or not is_list(paper[1]):
        return False
    sure = options.is_free(name) and not options.outside(name)
    if not sure or any([options.related(rival) for rival in options.rivals(name)]):
        return False
    return _shows_must_rows(paper[1], options, name)


def _shows_must_rows(rows, options, wanted):
    """Whether a list is that of a row for each elder name."""
    elder = options.elder(wanted)
    if len(rows) != len(elder):
        return False
    for row, name in zip(rows, elder):
        if not isinstance(row, tuple) or len(row) != 3 or not same(row[0], name):
            return False
        if not _lets(options, _plain_whys(options, name), row[1:]):
            return False
    return True
