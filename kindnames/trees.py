"""Trees: kinds with their sheets, and what lies in what."""

from kindnames.errors import BadTree, NoNode
from kindnames.words import are_sheets, is_node


def _is_kinds(thing):
    """Whether a thing is a dict from kinds to lists of one or more unlike words."""
    if not isinstance(thing, dict):
        return False
    return all([is_node(node) and node[0] == 0 and are_sheets(sheets) for node, sheets in thing.items()])


def _lies_well(node, outer):
    """Whether a node may lie in another thing: a node of greater rank, or None."""
    return is_node(node) and (outer is None or is_node(outer) and outer[0] > node[0])


def _is_parents(thing):
    """Whether a thing is a dict from nodes to nodes of greater rank or None."""
    return isinstance(thing, dict) and all([_lies_well(node, outer) for node, outer in thing.items()])


def _places(kinds):
    """A dict from the sheets of kinds to the kinds."""
    placed = {}
    for node, sheets in kinds.items():
        for sheet in sheets:
            if sheet in placed:
                raise BadTree("sheets")
            placed[sheet] = node
    return placed


def _upward(kinds, parents):
    """A dict from the nodes that are in the tree to what they lie in, or None."""
    lying = {}
    for kind in kinds:
        node = kind
        while node is not None and node not in lying:
            lying[node] = parents.get(node)
            node = lying[node]
    return lying


class Tree:
    """A tree, which never changes."""

    def __init__(self, kinds=None, parents=None):
        told = {} if kinds is None else kinds
        outer = {} if parents is None else parents
        if not _is_kinds(told):
            raise BadTree("kinds")
        self._kind_of = _places(told)
        if not _is_parents(outer):
            raise BadTree("parents")
        self._lying = _upward(told, outer)

    def nodes(self, *, rank=None):
        """The nodes, rising, of one rank where it is told."""
        return [node for node in sorted(self._lying) if rank is None or node[0] == rank]

    def sheets(self, node=None):
        """The sheets of a node by letters, of the whole tree where none is told."""
        if node is None:
            return sorted(self._kind_of)
        self._refuse(node)
        return [sheet for sheet in sorted(self._kind_of) if self.above(self._kind_of[sheet], node[0]) == node]

    def kind_of(self, sheet):
        """The kind that has a sheet, or None."""
        return self._kind_of.get(sheet) if isinstance(sheet, str) else None

    def parent(self, node):
        """What a node lies in straight, or None."""
        self._refuse(node)
        return self._lying[node]

    def above(self, node, rank):
        """The node of a rank that a node is, or lies in, in one step or several, or None."""
        self._refuse(node)
        at = node
        while at is not None and at[0] != rank:
            at = self._lying[at]
        return at

    def inner(self, node):
        """The nodes that lie straight in a node, rising."""
        self._refuse(node)
        return [each for each in sorted(self._lying) if self._lying[each] == node]

    def __eq__(self, other):
        return isinstance(other, Tree) and self._kind_of == other._kind_of and self._lying == other._lying

    def __len__(self):
        return len(self._kind_of)

    def _refuse(self, node):
        # The form is asked first: (False, "a") is the key (0, "a") for a dict, and a list can't be asked for.
        if not is_node(node) or node not in self._lying:
            raise NoNode(node)
