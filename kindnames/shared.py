"""Groups of sheets that trees have, and those that several trees share."""


def common(trees):
    """The sheets that all trees place, by letters."""
    if not trees:
        return []
    return [sheet for sheet in trees[0].sheets() if all([tree.kind_of(sheet) is not None for tree in trees])]


def groups(tree, sheets):
    """What a tree's nodes have of some sheets, two and more, each once, rising."""
    wanted = {sheet: True for sheet in sheets}
    told = [tuple([sheet for sheet in tree.sheets(node) if sheet in wanted]) for node in tree.nodes()]
    return sorted({group for group in told if len(group) > 1})


def shared_groups(trees):
    """The groups over all common sheets that more than half of the trees have, each with how many, rising."""
    sheets = common(trees)
    many = {}
    for tree in trees:
        for group in groups(tree, sheets):
            many[group] = many.get(group, 0) + 1
    return [(group, many[group]) for group in sorted(many) if 2 * many[group] > len(trees)]


def distance(one, two):
    """How many groups over the sheets that both trees place one of them alone has."""
    sheets = common([one, two])
    return len(set(groups(one, sheets)) ^ set(groups(two, sheets)))
