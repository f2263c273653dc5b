"""Groups and rows of trees told slowly, from the document's words, and all trees on few sheets."""

import itertools

from kindnames.trees import Tree


def grown_tree(chance, sheets):
    """A tree over some of some sheets, as groups that are parted again and again."""
    placed = [sheet for sheet in sheets if chance.random() < 0.85]
    numbers = itertools.count()
    kinds, parents = {}, {}

    def grow(some, rank, outer):
        number = next(numbers)
        node = (rank, "abcdefghij"[number // 10] + "abcdefghij"[number % 10])
        parents[node] = outer
        if rank == 0:
            kinds[node] = some
            return
        parts = {}
        for sheet in some:
            parts.setdefault(chance.randrange(2 + rank), []).append(sheet)
        for part in parts.values():
            grow(part, rank - 1, node)

    if placed:
        grow(placed, chance.choice([1, 2, 2, 3]), None)
    return Tree(kinds, parents)


def node_sheets(tree):
    """The sheets of each node, by going up from each sheet."""
    told = {}
    for sheet in tree.sheets():
        at = tree.kind_of(sheet)
        while at is not None:
            told.setdefault(at, []).append(sheet)
            at = tree.parent(at)
    return list(told.values())


def all_rows(trees):
    told = []
    for number, tree in enumerate(trees):
        inside = [set(some) for some in node_sheets(tree)]
        for a, b, c in itertools.permutations(tree.sheets(), 3):
            if a < b and any(a in some and b in some and c not in some for some in inside):
                told.append((a, b, c, number))
    return told


def are_nested(groups):
    for one, two in itertools.combinations(groups, 2):
        if set(one) & set(two) not in (set(), set(one), set(two)):
            return False
    return True


def keeps(groups, rows):
    return all(any(a in some and b in some and c not in some for some in groups) for a, b, c, _ in rows)


def all_trees(sheets):
    """All lists of groups of sheets, nested or apart, all sheets among them where they are two and more."""
    some = [group for many in range(2, len(sheets)) for group in itertools.combinations(sheets, many)]
    told = [[]]
    for group in some:
        told += [groups + [group] for groups in told if are_nested(groups + [group])]
    return [sorted(groups + [tuple(sheets)]) if len(sheets) > 1 else groups for groups in told]


def parts_by(sheets, rows):
    """The parts into which rows within sheets tie them."""
    parts = [{sheet} for sheet in sheets]
    for a, b, c, _ in rows:
        if {a, b, c} <= set(sheets):
            tied = [part for part in parts if a in part or b in part]
            parts = [part for part in parts if part not in tied] + [set().union(*tied)]
    return parts


def parts_by_rows_alone(groups, sheets, rows):
    """Whether each group, with its sheets, is parted into just what rows within it tie."""
    for group in groups:
        below = [some for some in groups if set(some) < set(group)]
        straight = [set(some) for some in below if not any(set(some) < set(other) for other in below)]
        straight += [{sheet} for sheet in group if not any(sheet in some for some in straight)]
        if sorted(map(sorted, straight)) != sorted(map(sorted, parts_by(group, rows))):
            return False
    return True
