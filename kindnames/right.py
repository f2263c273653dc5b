"""Right names: which name of a node is right, and why another one isn't."""

from kindnames.fits import Fits
from kindnames.names import Names


def why_not(book, tree, node, name, *, upto=None):
    """The first reason why a name isn't right in a node, with a thing; None of the right one."""
    fits = Fits(Names(book, upto), tree, node)
    fits.refuse(name)
    reason = fits.first_reason(name)
    if reason is not None:
        return reason
    best = fits.best()
    return None if name == best else ("younger", best)


def right(book, tree, node, *, upto=None):
    """The right name of a node, or None."""
    return Fits(Names(book, upto), tree, node).best()
