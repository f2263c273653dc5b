"""What names may be by some choice of bearers, and what they are by all of them, seen from one node."""

from kindnames.fits import sheets_around
from kindnames.names import Names


class Options:
    """The names of a node's rank, with the bearers that choices can give them; aheads play no part."""

    def __init__(self, book, tree, node, upto):
        self._sheets, self._family = sheets_around(tree, node)
        self._names = Names(book, upto)
        self._rank = node[0]

    def refuse(self, name):
        """Refuse a name that isn't there, or is of another rank."""
        self._names.refuse(name, self._rank)

    def has_bars(self):
        """Whether names can be barred here."""
        return len(self._family) > 0

    def bases(self):
        """The names that a choice gives a bearer, rising."""
        return self._names.bases()

    def base(self, name):
        """The name whose bearer a name has."""
        return self._names.base(name)

    def elder(self, name):
        """The names of the rank elder than a name, rising."""
        return [other for other in self._names.of_rank(self._rank) if other < name]

    def bearers(self, name):
        """The sheets that a choice may give a name, by letters."""
        return self._names.bearers(name)

    def inside(self, name):
        """The bearers that are sheets of the node."""
        return [sheet for sheet in self.bearers(name) if sheet in self._sheets]

    def outside(self, name):
        """The bearers that aren't sheets of the node."""
        return [sheet for sheet in self.bearers(name) if sheet not in self._sheets]

    def related(self, name):
        """The bearers that are sheets of the family."""
        return [sheet for sheet in self.bearers(name) if sheet in self._family]

    def strange(self, name):
        """The bearers that aren't sheets of the family."""
        return [sheet for sheet in self.bearers(name) if sheet not in self._family]

    def strikes(self, name):
        """The strikes of a name, rising."""
        return self._names.strikes(name)

    def takers(self, name):
        """The names that take a name's words, rising."""
        return self._names.takers(name)

    def is_free(self, name):
        """Whether a name is neither struck nor taken."""
        return not self.strikes(name) and not self.takers(name)

    def rivals(self, name):
        """The names that bar a name by a choice that gives them a sheet of the family, rising."""
        return self._names.rivals(name) if self.has_bars() else []

    def sure_bars(self, name):
        """The names that bar a name by each choice by which it is in the node, rising."""
        base = self.base(name)
        return [other for other in self.rivals(name) if self.base(other) == base or not self.strange(other)]

    def is_unbarred(self, name, wanted, out):
        """Whether none bars a name by any choice by which it and a wanted one are in the node and some bases
        have no sheet of the family."""
        let = [self.base(name), self.base(wanted)]
        for rival in self.rivals(name):
            base = self.base(rival)
            if base in let or self.related(base) and base not in out:
                return False
        return True

    def right_by(self, choice):
        """The right name of the node by a choice, or None."""
        for name in self._names.of_rank(self._rank):
            if choice[self.base(name)] in self._sheets and self.is_free(name):
                if not any([choice[self.base(rival)] in self._family for rival in self.rivals(name)]):
                    return name
        return None
