"""Rows of trees, (a, b, c, number): a tree has a node with the sheets a and b and without c, which it places."""


def tied(sheets, rows):
    """The parts into which rows tie sheets, as rising lists, and those of the rows that tie what none ahead did."""
    heads = {sheet: sheet for sheet in sheets}
    used = []
    for row in rows:
        first = heads[row[0]]
        second = heads[row[1]]
        if first != second:
            used.append(row)
            heads = {sheet: first if head == second else head for sheet, head in heads.items()}
    parts = {}
    for sheet in sheets:
        parts.setdefault(heads[sheet], []).append(sheet)
    return (list(parts.values()), used)


class Rows:
    """The rows of some trees, each tree read once."""

    def __init__(self, trees):
        self._placed = [tree.sheets() for tree in trees]
        # Of each tree the sheets of each of its nodes.
        self._nodes = [[tree.sheets(node) for node in tree.nodes()] for tree in trees]

    def sheets(self):
        """The sheets that any of the trees places, by letters."""
        return sorted({sheet for placed in self._placed for sheet in placed})

    def within(self, sheets):
        """Rows within rising sheets, enough of them to tie what all rows there tie."""
        wanted = {sheet: True for sheet in sheets}
        told = []
        for number, nodes in enumerate(self._nodes):
            placed = [sheet for sheet in self._placed[number] if sheet in wanted]
            for inside in nodes:
                group = [sheet for sheet in inside if sheet in wanted]
                outside = [sheet for sheet in placed if sheet not in inside]
                # All of a node's sheets are tied where any other sheet of the tree is there: so one after the other.
                if outside:
                    told.extend([(one, two, outside[0], number) for one, two in zip(group, group[1:])])
        return told

    def has(self, row):
        """Whether three sheets and a tree's number are a row, the first sheet ahead of the second."""
        one, two, other, number = row
        if not one < two or other not in self._placed[number]:
            return False
        return any([one in inside and two in inside and other not in inside for inside in self._nodes[number]])

    def are_kept(self, groups):
        """Whether groups that are nested or apart keep all rows."""
        members = [{sheet: True for sheet in group} for group in groups]
        for placed, nodes in zip(self._placed, self._nodes):
            for inside in nodes:
                # Groups without a sheet that are nested or apart have all of a node if they have its pairs.
                around = [group for group in members if all([sheet in group for sheet in inside])]
                for other in placed:
                    if len(inside) > 1 and other not in inside and all([other in group for group in around]):
                        return False
        return True
