"""What the pages of a line do, one after the other."""

from kindnames.deeds import nodes_named
from kindnames.trees import Tree


class Line:
    """Nodes born and joined, sheets put and nodes moved by the pages that were done so far."""

    def __init__(self):
        self._born = {}
        self._keepers = {}
        # Of each sheet the kind as named, None where it is out: the keeper of it may be another one later.
        self._put = {}
        # Of nodes that were keepers when they were moved what they lie in, as named.
        self._moved = {}

    def do_page(self, moment, deeds):
        """Do all deeds of a page at once, in whatever order they stand."""
        for deed in deeds:
            for node in nodes_named(deed):
                self._bear(moment, node)
        for deed in deeds:
            if deed[0] == "join":
                self._join(deed[1], deed[2])
        for deed in deeds:
            if deed[0] in ("put", "out"):
                for sheet in deed[1]:
                    self._put[sheet] = deed[2] if deed[0] == "put" else None
        self._move([deed for deed in deeds if deed[0] == "move"])

    def keeper(self, node):
        """The keeper to which a node leads, None where it isn't born."""
        return self._keepers.get(node)

    def born(self, node):
        """The moment at which a node is born, or None."""
        return self._born.get(node)

    def tree(self):
        """The tree as it lies now."""
        kinds = {}
        for sheet, kind in self._put.items():
            if kind is not None:
                kinds.setdefault(self._keepers[kind], []).append(sheet)
        parents = {}
        for node, outer in self._moved.items():
            # What a node lay in that is no keeper any more no longer counts.
            if outer is not None and self._keepers[node] == node:
                parents[node] = self._keepers[outer]
        return Tree(kinds, parents)

    def _bear(self, moment, node):
        if node not in self._born:
            self._born[node] = moment
            self._keepers[node] = node

    def _age(self, node):
        return (self._born[node], node[1])

    def _join(self, one, other):
        """Let all that leads to one of two keepers lead to the one of them born first."""
        first, second = sorted([self._keepers[one], self._keepers[other]], key=self._age)
        for node in list(self._keepers):
            if self._keepers[node] == second:
                self._keepers[node] = first

    def _move(self, moves):
        done = {}
        for _, node, outer in sorted(moves, key=lambda deed: self._age(deed[1])):
            keeper = self._keepers[node]
            if keeper not in done:
                done[keeper] = True
                self._moved[keeper] = outer
