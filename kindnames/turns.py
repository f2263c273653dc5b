"""Turns: the entries by which the right name of a mind's kind changes."""

from kindnames.errors import NoNode
from kindnames.moments import is_there
from kindnames.right import right
from kindnames.words import is_node


def _name(book, minds, mind, kind, upto):
    """The right name of a kind's keeper, None where there is none or it isn't there."""
    keeper = minds.keeper(mind, kind, upto=upto)
    tree = minds.tree(mind, upto=upto)
    if keeper not in tree.nodes():
        return None
    return right(book, tree, keeper, upto=upto)


def turns(house, mind, kind, *, since, upto=None):
    """The turns of a mind's kind behind a pair and up to another one, (moment, name, name), rising."""
    if not is_node(kind) or kind[0] != 0:
        raise NoNode(kind)
    book = house.book()
    minds = house.minds()
    told = []
    before = _name(book, minds, mind, kind, since)
    for record in house.records(upto=upto):
        if not is_there(record[1], since):
            after = _name(book, minds, mind, kind, record[1])
            if after != before:
                told.append((record[1], before, after))
            before = after
    return told
