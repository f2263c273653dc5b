"""All that can be asked of a house: each ask with its arguments, by the names of the interface."""

from kindnames import (called, choices, frames, lies, mays, onetree, printed, puts, right, rightpapers, saidof, shared, sides, texts,
                       turns, uses, wanted, ways, worlds)

# Of each function its arguments that are handed in by places, those of names alone come behind them.
PLACES = {}


def place(function, *names):
    PLACES[function] = names
    return function


BOOK_ASKS = [place(right.right, "book", "tree", "node"), place(rightpapers.right_paper, "book", "tree", "node"),
             place(called.called, "book", "tree", "node")]
NAME_ASKS = [place(right.why_not, "book", "tree", "node", "name"), place(wanted.wanted, "book", "tree", "node", "name"),
             place(choices.may_be_right, "book", "tree", "node", "name"), place(choices.must_be_right, "book", "tree", "node", "name")]
TWO_TREES = [place(ways.least_way, "one", "two"), place(puts.fewest_puts, "one", "two"), place(puts.puts_page, "one", "two"),
             place(shared.distance, "one", "two")]
SOME_TREES = [place(shared.common, "trees"), place(shared.shared_groups, "trees"), place(onetree.one_tree, "trees")]
place(choices.right_by, "book", "tree", "node", "choice")
place(called.kind_called, "book", "tree", "words")
place(uses.meant, "book", "minds", "words", "mind")
place(uses.leads, "book", "minds", "words", "mind", "tree")
place(uses.led, "sheets", "tree")
place(uses.senses, "book", "one", "two")
place(sides.lie, "one", "node", "two", "other")
place(ways.way_pages, "one", "steps")
place(lies.why_lies, "minds", "mind", "sheet")
place(lies.why_one, "minds", "mind", "node", "other")
place(shared.groups, "tree", "sheets")
place(worlds.world, "frame", "sayings")
place(mays.may_lie, "frame", "sayings", "one", "other")
place(mays.blame, "frame", "sayings")
place(mays.follows, "frame", "sayings", "saying")
place(turns.turns, "house", "mind", "kind")
place(saidof.house_may_lie, "house", "one", "other")
place(saidof.use_may, "house", "words", "mind", "other")
place(printed.printed, "house", "mind", "node")
place(texts.show_house, "house")


def ask(function, more, by_names=False):
    """What a function tells, its arguments handed in by places or by names."""
    if by_names:
        return function(**more)
    names = PLACES[function]
    return function(*[more[name] for name in names], **{name: worth for name, worth in more.items() if name not in names})


def asks(house, upto):
    """All asks of a house up to a pair, (function, arguments); sheets and pairs of chance houses."""
    book, minds = house.book(), house.minds()
    trees = [house.tree(mind, upto=upto) for mind in ("ann", "bob")]
    told = [(texts.show_house, {"house": house})] if upto is None else []
    for mind, tree in zip(("ann", "bob"), trees):
        told += [(lies.why_lies, {"minds": minds, "mind": mind, "sheet": sheet, "upto": upto}) for sheet in "stuvw"]
        told += about_tree(book, tree, upto)
        born = [node for node in tree.nodes()]
        told += [(lies.why_one, {"minds": minds, "mind": mind, "node": one, "other": other, "upto": upto})
                 for one in born for other in born]
        told += [(turns.turns, {"house": house, "mind": mind, "kind": node, "since": (0, 0), "upto": upto})
                 for node in tree.nodes(rank=0)]
        for words in [(one, two) for one in "xyz" for two in "mno"]:
            told.append((uses.meant, {"book": book, "minds": minds, "words": words, "mind": mind, "upto": upto}))
            told.append((uses.leads, {"book": book, "minds": minds, "words": words, "mind": mind, "tree": trees[0], "upto": upto}))
    return told + about_trees(book, trees, upto) + about_sayings(house, trees, upto)


def about_tree(book, tree, upto):
    told = [(shared.groups, {"tree": tree, "sheets": ["t", "s", "u"]}), (uses.led, {"sheets": ["v", "s"], "tree": tree})]
    told += [(called.kind_called, {"book": book, "tree": tree, "words": (one, two), "upto": upto}) for one in "xyz" for two in "mno"]
    choice = {name: book.bearers(name, upto=upto)[0] for name in book.names(rank=0, upto=upto) if book.base(name) == name}
    for node in tree.nodes():
        more = {"book": book, "tree": tree, "node": node, "upto": upto}
        told += [(function, more) for function in BOOK_ASKS]
        told.append((choices.right_by, {**more, "choice": choice}))
        for name in book.names(rank=node[0], upto=upto):
            told += [(function, {**more, "name": name}) for function in NAME_ASKS]
    return told


def about_trees(book, trees, upto):
    one, two = trees
    told = [(function, {"one": one, "two": two}) for function in TWO_TREES]
    told += [(function, {"trees": trees}) for function in SOME_TREES]
    told.append((uses.senses, {"book": book, "one": one, "two": two, "upto": upto}))
    told.append((ways.way_pages, {"one": one, "steps": ways.least_way(one, two)[1], "but": ["aaa"]}))
    told += [(sides.lie, {"one": one, "node": node, "two": two, "other": other}) for node in one.nodes() for other in two.nodes()]
    return told


def about_sayings(house, trees, upto):
    """Worlds of a frame of the trees, and what the house's own sayings tell."""
    frame = frames.Frame(trees)
    pairs = [(node, other) for node in trees[0].nodes() for other in trees[1].nodes()]
    some = [frames.said((0, node), (1, other), word) for (node, other), word in zip(pairs, ["within", "cross", "apart"])]
    more = {"frame": frame, "sayings": some}
    told = [(worlds.world, more), (mays.blame, more)]
    told += [(mays.may_lie, {**more, "one": (0, node), "other": (1, other)}) for node, other in pairs]
    told += [(mays.follows, {**more, "saying": frames.Saying((0, node), (1, other), both=True)}) for node, other in pairs]
    pair = (9, 9) if upto is None else upto
    for record in house.records(upto=upto):
        if record[0] == "saying" and all(node in house.tree(mind, upto=at).nodes() for mind, at, node in record[3:5]):
            told.append((saidof.house_may_lie, {"house": house, "one": record[3], "other": record[4], "upto": upto}))
    for words in [(one, two) for one in "xy" for two in "mn"]:
        told.append((saidof.use_may, {"house": house, "words": words, "mind": "ann", "other": "bob", "upto": pair, "on": pair, "told": upto}))
    told += [(printed.printed, {"house": house, "mind": "ann", "node": node, "upto": pair})
             for node in house.tree("ann", upto=pair).nodes(rank=0)]
    return told
