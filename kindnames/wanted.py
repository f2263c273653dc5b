"""Wanted names: which strikes make a name right."""

from kindnames.fits import Fits
from kindnames.links import chains
from kindnames.names import Names


def _plain_rows(fits, name):
    """The names to be struck plainly, where nothing but them stands in the way of a fit one."""
    # One may be set ahead by several aheads, and is struck once.
    setters = fits.setters(name)
    ahead = [one for one in fits.fit() if one in setters]
    left = [one for one in fits.fit() if one not in ahead]
    links = fits.links(left)
    rows = [(one, "ahead") for one in ahead]
    # Chains lead to where they start, too: neither the wanted name nor a younger one is told.
    return rows + [(one, "elder") for one in left if all([end < name for end in chains(links, one)])]


def wanted(book, tree, node, name, *, upto=None):
    """The least strikes that make a name right in a node, or why none do."""
    fits = Fits(Names(book, upto), tree, node)
    fits.refuse(name)
    elsewhere, struck, taken, barred = fits.unfit(name)
    for reason, things in [elsewhere, struck]:
        if things:
            return ("never", reason, things[0])
    whole = [(other, "takes") for other in taken[1]]
    whole = whole + [(other, "bars") for other in barred[1] if other not in taken[1]]
    # What is wholly struck isn't fit and stands in nobody's way any more, as if it weren't there.
    later = Fits(Names(book, upto, [row[0] for row in whole]), tree, node)
    return ("strikes", sorted(whole + _plain_rows(later, name)))
