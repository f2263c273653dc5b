"""What nodes are called, by the words of their right names."""

from kindnames.fits import Fits
from kindnames.names import Names


def _words_by(names, tree, node, best):
    """What a node is called by its right name, None where it isn't."""
    if best is None:
        return None
    if node[0] != 0:
        return names.words(best)
    family = tree.above(node, 1)
    first = None if family is None else Fits(names, tree, family).best()
    return None if first is None else (names.words(first)[0], names.words(best)[1])


def called(book, tree, node, *, upto=None):
    """What a node is called, None where it isn't."""
    names = Names(book, upto)
    return _words_by(names, tree, node, Fits(names, tree, node).best())


def called_kinds(book, tree, upto):
    """A dict from the words by which kinds are called to these kinds, each with its right name."""
    names = Names(book, upto)
    # Unlike kinds are never called alike: of one family the elder of their right names bars the other one.
    told = {}
    for node in tree.nodes(rank=0):
        best = Fits(names, tree, node).best()
        words = _words_by(names, tree, node, best)
        if words is not None:
            told[words] = (node, best)
    return told


def kind_called(book, tree, words, *, upto=None):
    """The kind that is called by two words, or None."""
    node, _ = called_kinds(book, tree, upto).get(words, (None, None))
    return node
