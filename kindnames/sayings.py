"""What minds say of nodes of two trees, each the tree of a mind up to a pair."""

from kindnames.errors import BadSaying
from kindnames.frames import unsaid_part
from kindnames.moments import is_there
from kindnames.words import is_node, is_pair, is_word


def _is_told_side(thing):
    """Whether a thing is a node of the tree of a mind up to a pair: (mind, pair, node)."""
    if not isinstance(thing, tuple) or len(thing) != 3:
        return False
    return is_word(thing[0]) and is_pair(thing[1]) and is_node(thing[2])


def bad_saying(mind, one, other, both, first, second):
    """The first part of what a mind says that isn't as told, or None."""
    if not is_word(mind):
        return "mind"
    if not _is_told_side(one):
        return "one"
    if not _is_told_side(other) or other[:2] == one[:2]:
        return "other"
    return unsaid_part(both, first, second)


class Sayings:
    """Sayings of a house by their moments, which the house has asked for; kept as the records that are told:

    ("saying", moment, mind, one, other, both, first, second).
    """

    def __init__(self):
        self._told = {}

    def say(self, moment, mind, one, other, *, both=None, first=None, second=None):
        """Tell what a mind says of a node of a tree and a node of another one."""
        part = bad_saying(mind, one, other, both, first, second)
        if part is not None:
            raise BadSaying(part)
        self._told[moment] = ("saying", moment, mind, one, other, both, first, second)

    def drop(self, moment):
        """Drop the saying of a moment."""
        del self._told[moment]

    def entries(self, *, upto=None):
        """The records up to a pair, as they were told."""
        return [record for moment, record in self._told.items() if is_there(moment, upto)]
