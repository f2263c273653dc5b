"""Frames, the places where things may be in two or three trees, and sayings of how two sides lie."""

from kindnames.errors import BadFrame, BadSaying, BadSide, TooMany
from kindnames.trees import Tree
from kindnames.words import is_list, is_node, is_number

MOST_TREES = 3
MOST_PLACES = 4000

# Of each word whether something is in both sides, in the first alone, in the second alone.
WORDS = {
    "same": (True, False, False),
    "within": (True, False, True),
    "round": (True, True, False),
    "cross": (True, True, True),
    "apart": (False, True, True),
}


def _is_side(thing, many):
    """Whether a thing is a side of one of so many trees."""
    return isinstance(thing, tuple) and len(thing) == 2 and is_number(thing[0], 0, many - 1) and is_node(thing[1])


def _are_trees(thing):
    return is_list(thing) and 2 <= len(thing) <= MOST_TREES and all([isinstance(tree, Tree) for tree in thing])


def _has_side(trees, thing):
    return _is_side(thing, len(trees)) and thing[1] in trees[thing[0]].nodes()


def _refuse_parts(trees, open_nodes, closed):
    """Refuse the first part of a frame that isn't as told."""
    if not _are_trees(trees):
        raise BadFrame("trees")
    if not is_list(open_nodes) or not all([_has_side(trees, side) for side in open_nodes]):
        raise BadFrame("open")
    if not is_list(closed) or not all([is_number(number, 0, len(trees) - 1) for number in closed]):
        raise BadFrame("closed")


def _items(tree, opened, is_closed):
    """Where a thing may be in one tree, in order."""
    nodes = [node for node in tree.nodes() if node[0] == 0 or node in opened]
    return nodes if is_closed and nodes else nodes + [None]


def _how_many(rows):
    """How many places there are of some trees' items."""
    many = 1
    for items in rows:
        many = many * len(items)
    return many - 1 if all([None in items for items in rows]) else many


class Frame:
    """Two or three trees and the places there, which never change."""

    def __init__(self, trees, *, open_nodes=(), closed=()):
        _refuse_parts(trees, open_nodes, closed)
        self._trees = list(trees)
        rows = []
        for number, tree in enumerate(trees):
            opened = [side[1] for side in open_nodes if side[0] == number]
            rows.append(_items(tree, opened, number in closed))
        # Counted first: there may be far too many to be made.
        if _how_many(rows) > MOST_PLACES:
            raise TooMany(_how_many(rows))
        made = [()]
        for items in rows:
            made = [(*place, item) for place in made for item in items]
        self._made = [place for place in made if any([item is not None for item in place])]

    def places(self):
        """All places, in order."""
        return list(self._made)

    def refuse(self, side):
        """Refuse a side that the frame hasn't."""
        if not _has_side(self._trees, side):
            raise BadSide(side)

    def inside(self, side):
        """The numbers of the places that are in a side, rising."""
        number, node = side
        tree = self._trees[number]
        items = {item: True for item in tree.nodes() if tree.above(item, node[0]) == node}
        return [at for at, place in enumerate(self._made) if place[number] in items]

    def placed(self):
        """A dict from the sheets that the trees place, by letters, to the sides where these lie: the kinds."""
        sides = {}
        for number, tree in enumerate(self._trees):
            for sheet in tree.sheets():
                sides.setdefault(sheet, []).append((number, tree.kind_of(sheet)))
        return {sheet: sides[sheet] for sheet in sorted(sides)}


def unsaid_part(both, first, second):
    """The first of the three parts of a saying of which neither a truth nor None is told, or None."""
    for part, told in [("both", both), ("first", first), ("second", second)]:
        if told is not True and told is not False and told is not None:
            return part
    return None


class Saying:
    """What is said of two sides, which never changes: whether something is in both, in one of them alone."""

    def __init__(self, one, other, *, both=None, first=None, second=None):
        if not _is_side(one, MOST_TREES):
            raise BadSaying("one")
        if not _is_side(other, MOST_TREES) or other[0] == one[0]:
            raise BadSaying("other")
        part = unsaid_part(both, first, second)
        if part is not None:
            raise BadSaying(part)
        self.one = one
        self.other = other
        self.both = both
        self.first = first
        self.second = second

    def __eq__(self, other):
        if not isinstance(other, Saying) or self.one != other.one or self.other != other.other:
            return False
        return self.both == other.both and self.first == other.first and self.second == other.second


def said(one, other, word):
    """The saying by one of the five words."""
    if not isinstance(word, str) or word not in WORDS:
        raise BadSaying("word")
    both, first, second = WORDS[word]
    return Saying(one, other, both=both, first=first, second=second)
