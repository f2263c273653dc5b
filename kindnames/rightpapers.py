"""Papers of right names: a row for each name that could be right in its place, and the look at them."""

from kindnames.fits import Fits
from kindnames.looks import is_headed, is_one_of, same
from kindnames.names import Names
from kindnames.words import is_list


def _asked(fits, best):
    """The names of which a paper has rows, rising."""
    if best is None:
        return fits.names()
    setters = fits.setters(best)
    return [name for name in fits.names() if name < best or name in setters]


def _let(fits, best, name):
    """The reasons that a row of a name may tell, each with all things by which it is so."""
    # One that is set ahead of the right name, or that is there without one, must itself be unfit.
    if best is None or name in fits.setters(best):
        return fits.unfit(name)
    return fits.reasons(name)


def right_paper(book, tree, node, *, upto=None):
    """The paper of a node's right name, or of its having none."""
    fits = Fits(Names(book, upto), tree, node)
    best = fits.best()
    rows = [(name, *fits.first_reason(name)) for name in _asked(fits, best)]
    return ("none", rows) if best is None else ("right", best, rows)


def _shows_row(row, fits, best, name):
    """Whether a thing is a row of a name."""
    told = []
    for reason, things in _let(fits, best, name):
        told = told + [(name, reason, thing) for thing in things]
    return is_one_of(row, told)


def _shows_rows(rows, fits, best):
    """Whether a thing is the list of all rows that are asked."""
    names = _asked(fits, best)
    if not is_list(rows) or len(rows) != len(names):
        return False
    return all([_shows_row(row, fits, best, name) for row, name in zip(rows, names)])


def shows_right(book, tree, node, paper, *, upto=None):
    """Whether a thing is a paper of a node's right name."""
    fits = Fits(Names(book, upto), tree, node)
    if is_headed(paper, "none", 2):
        return _shows_rows(paper[1], fits, None)
    if not is_headed(paper, "right", 3):
        return False
    for name in fits.fit():
        if same(paper[1], name):
            return _shows_rows(paper[2], fits, name)
    return False
