"""What stands against names in a node of a tree."""


def sheets_around(tree, node):
    """The sheets of a node, and those of the family in which a kind lies, none where nobody can be barred."""
    # Refuses a node that isn't in the tree; of None its sheets would be those of the whole tree.
    tree.parent(node)
    family = tree.above(node, 1) if node[0] == 0 else None
    return (tree.sheets(node), [] if family is None else tree.sheets(family))


class Fits:
    """The names of a node's rank, with all reasons why they aren't right in it but that of being younger."""

    def __init__(self, names, tree, node):
        self._sheets, self._family = sheets_around(tree, node)
        self._names = names
        self._rank = node[0]
        self._of_rank = names.of_rank(node[0])
        self._fit = [name for name in self._of_rank if not any([things for _, things in self.unfit(name)])]

    def refuse(self, name):
        """Refuse a name that isn't there, or is of another rank."""
        self._names.refuse(name, self._rank)

    def names(self):
        """The names of the rank that are there, rising."""
        return list(self._of_rank)

    def fit(self):
        """The names that are in the node, neither struck, taken nor barred, rising."""
        return list(self._fit)

    def best(self):
        """The right name, or None."""
        for name in self._fit:
            if not self._ways(name):
                return name
        return None

    def setters(self, name):
        """The names that are set ahead of a name by aheads that do something."""
        return [one for _, one, other in self._names.aheads() if other == name]

    def links(self, names):
        """The ways from each of some names to those of them that are set ahead of it, as links."""
        return [(at, other, one) for at, one, other in self._names.aheads() if one in names and other in names]

    def unfit(self, name):
        """The four reasons why a name isn't fit, in order, each with all things by which it is so."""
        return [
            ("elsewhere", [sheet for sheet in self._names.bearers(name) if sheet not in self._sheets]),
            ("struck", self._names.strikes(name)),
            ("taken", self._names.takers(name)),
            ("barred", self._bars(name)),
        ]

    def reasons(self, name):
        """The reasons why a name isn't fit, and then that it gives way."""
        return self.unfit(name) + [("gives way", self._ways(name))]

    def first_reason(self, name):
        """The first reason that is so, with the first thing by which it is, or None."""
        for reason, things in self.reasons(name):
            if things:
                return (reason, things[0])
        return None

    def _bars(self, name):
        # Without a family, and of another rank than 0, there is no sheet by which one could be barred.
        if not self._family:
            return []
        return [other for other in self._names.rivals(name) if self._is_in_family(other)]

    def _is_in_family(self, name):
        return all([sheet in self._family for sheet in self._names.bearers(name)])

    def _ways(self, name):
        """The aheads by which a name gives way."""
        return [moment for moment, one, other in self._names.aheads() if other == name and one in self._fit]
