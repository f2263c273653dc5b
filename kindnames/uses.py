"""Uses of words: what they mean, where their sheets are led, and words in two senses."""

from kindnames.called import called_kinds, kind_called


def meant(book, minds, words, mind, *, upto=None):
    """What two words mean that a mind uses up to a pair."""
    tree = minds.tree(mind, upto=upto)
    node = kind_called(book, tree, words, upto=upto)
    if node is not None:
        return ("kind", node, tree.sheets(node))
    names = [name for name in book.names(rank=0, upto=upto) if book.words(name) == words]
    return ("names", names) if names else ("unknown",)


def led(sheets, tree):
    """Where sheets lie in a tree: a row for each kind, and those that lie nowhere."""
    by_kind = {}
    nowhere = []
    for sheet in sorted(sheets):
        kind = tree.kind_of(sheet)
        if kind is None:
            nowhere.append(sheet)
        else:
            by_kind.setdefault(kind, []).append(sheet)
    return ([(kind, len(by_kind[kind]), by_kind[kind][0]) for kind in sorted(by_kind)], nowhere)


def leads(book, minds, words, mind, tree, *, upto=None):
    """Where what a mind means by two words is led in a tree."""
    told = meant(book, minds, words, mind, upto=upto)
    if told[0] == "names":
        return ("names", [(name, *led(book.bearers(name, upto=upto), tree)) for name in told[1]])
    if told[0] == "unknown":
        return told
    rows, nowhere = led(told[2], tree)
    if not rows:
        return ("gone", rows, nowhere)
    return ("one" if len(rows) == 1 and not nowhere else "some", rows, nowhere)


def senses(book, one, two, *, upto=None):
    """The words by which kinds of two trees are called, and whether by one name or by two."""
    rows = []
    firsts = called_kinds(book, one, upto)
    seconds = called_kinds(book, two, upto)
    for words in sorted(firsts):
        if words in seconds:
            first = firsts[words][1]
            second = seconds[words][1]
            if first == second:
                rows.append((words, "one", first, book.bearers(first, upto=upto)[0]))
            else:
                rows.append((words, "two", first, second))
    return rows
