"""What stands against names in a node of a tree, by a book up to a pair."""

from kindnames.errors import Unfit


class Fits:
    """The names of a node's rank, with all reasons why they aren't right in it but that of being younger."""

    def __init__(self, book, tree, node, upto):
        # Refuses a node that isn't in the tree; of None its sheets would be those of the whole tree.
        tree.parent(node)
        self._book = book
        self._upto = upto
        self._rank = node[0]
        self._sheets = tree.sheets(node)
        family = tree.above(node, 1) if node[0] == 0 else None
        self._family = [] if family is None else tree.sheets(family)
        self._aheads = book.aheads(upto=upto)
        self._strikes = [record for record in book.entries(upto=upto) if record[0] == "strike"]
        self._names = book.names(rank=self._rank, upto=upto)
        # Those that are wholly struck neither take words nor bar others.
        self._standing = [name for name in self._names if book.wholly(name, upto=upto) is None]
        self._fit = [name for name in self._names if not any([things for _, things in self.unfit(name)])]

    def refuse(self, name):
        """Refuse a name that isn't there, or is of another rank."""
        # Asked for its refusal alone: a name's rank doesn't tell whether it is there up to the pair.
        self._bearers(name)
        if self._book.rank(name) != self._rank:
            raise Unfit(name)

    def names(self):
        """The names of the rank that are there, rising."""
        return list(self._names)

    def fit(self):
        """The names that are in the node, neither struck, taken nor barred, rising."""
        return list(self._fit)

    def best(self):
        """The right name, or None."""
        for name in self._fit:
            if not self._ways(name):
                return name
        return None

    def setters(self, name):
        """The names that are set ahead of a name by aheads that do something."""
        return [one for _, one, other in self._aheads if other == name]

    def unfit(self, name):
        """The four reasons why a name isn't fit, in order, each with all things by which it is so."""
        return [
            ("elsewhere", [sheet for sheet in self._bearers(name) if sheet not in self._sheets]),
            ("struck", [record[1] for record in self._strikes if record[2] == name]),
            ("taken", self._takers(name)),
            ("barred", self._bars(name)),
        ]

    def reasons(self, name):
        """The reasons why a name isn't fit, and then that it gives way."""
        return self.unfit(name) + [("gives way", self._ways(name))]

    def first_reason(self, name):
        """The first reason that is so, with the first thing by which it is, or None."""
        for reason, things in self.reasons(name):
            if things:
                return (reason, things[0])
        return None

    def _bearers(self, name):
        return self._book.bearers(name, upto=self._upto)

    def _elder(self, name):
        """The elder names of the rank that can take a name's words, or bar it."""
        return [other for other in self._standing if other < name]

    def _takers(self, name):
        words = self._book.words(name)
        return [other for other in self._elder(name) if self._book.words(other) == words]

    def _bars(self, name):
        # Without a family, and of another rank than 0, there is no sheet by which one could be barred.
        if not self._family:
            return []
        own = self._book.words(name)[1]
        alike = [other for other in self._elder(name) if self._book.words(other)[1] == own]
        return [other for other in alike if all([sheet in self._family for sheet in self._bearers(other)])]

    def _ways(self, name):
        """The aheads by which a name gives way."""
        return [moment for moment, one, other in self._aheads if other == name and one in self._fit]
