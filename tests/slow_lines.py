"""Lines and what their pages do, told the slow way: everything anew from the words of the document."""

from kindnames.trees import Tree


def slow_line(pages, mind, ahead_of):
    own = sorted(page for page in pages if page[1] == mind and (ahead_of is None or page[0] < ahead_of))
    takes = [page for page in own if any(deed[0] == "take" for deed in page[2])]
    if not takes:
        return own
    other = [deed[1] for deed in takes[-1][2] if deed[0] == "take"][0]
    return slow_line(pages, other, takes[-1][0]) + [page for page in own if page[0] >= takes[-1][0]]


def slow_group(joins, node):
    group = {node}
    while True:
        more = {each for pair in joins if group & set(pair) for each in pair} - group
        if not more:
            return group
        group |= more


def slow_state(line):
    born, joins, where, lies = {}, [], {}, {}

    def age(node):
        return (born[node], node[1])

    def keeper(node):
        return min(slow_group(joins, node), key=age)

    for moment, _, deeds in line:
        for deed in deeds:
            for part in deed[1:]:
                if isinstance(part, tuple) and len(part) == 2 and isinstance(part[0], int):
                    born.setdefault(part, moment)
        joins += [deed[1:] for deed in deeds if deed[0] == "join"]
        for deed in deeds:
            if deed[0] == "put":
                where.update({sheet: deed[2] for sheet in deed[1]})
            if deed[0] == "out":
                where.update({sheet: None for sheet in deed[1]})
        for _, node, outer in sorted((deed for deed in deeds if deed[0] == "move"), key=lambda deed: age(deed[1]), reverse=True):
            lies[keeper(node)] = outer
    kinds = {}
    for sheet, kind in where.items():
        if kind is not None:
            kinds.setdefault(keeper(kind), []).append(sheet)
    parents = {node: outer and keeper(outer) for node, outer in lies.items() if keeper(node) == node}
    return born, {node: keeper(node) for node in born}, Tree(kinds, parents)


def some_page(chance):
    # Called as nodes are and as letters of minds: words of one sort never stand for another.
    sheets = chance.sample("abcdnoi", 7)
    nodes = [(rank, word) for rank in (0, 0, 1, 2) for word in "abcd"]
    deeds, moved = [], []
    if chance.random() < 0.2:
        deeds.append(("take", chance.choice(["ann", "bob", "cid"])))
    for _ in range(chance.randint(0, 4)):
        sort = chance.choice(["join", "put", "out", "move", "move"])
        node = chance.choice(nodes)
        if sort == "join":
            others = [other for other in nodes if other[0] == node[0] and other != node]
            deeds.append(("join", node, chance.choice(others)))
        elif sort in ("put", "out"):
            some = [sheets.pop() for _ in range(min(len(sheets), chance.randint(1, 3)))]
            if some:
                deeds.append(("put", tuple(some), (0, chance.choice("abcd"))) if sort == "put" else ("out", tuple(some)))
        elif node not in moved:
            moved.append(node)
            outer = [other for other in nodes if other[0] > node[0]] + [None]
            deeds.append(("move", node, chance.choice(outer)))
    chance.shuffle(deeds)
    return tuple(deeds)
