"""Right names told the slow way, straight from the words of the document, and books to ask for them."""

from kindnames.book import Book
from kindnames.trees import Tree

F, G, H = (1, "f"), (1, "g"), (2, "h")


def names(*rows):
    """Names of rank 0, one a day from day 1 on: (words, sheets) or (words, the day of the name it is like)."""
    book = Book()
    for at, (words, worth) in enumerate(rows):
        if isinstance(worth, int):
            book.publish((at + 1, 1), tuple(words.split()), like=(worth, 1))
        else:
            book.publish((at + 1, 1), tuple(words.split()), sheets=list(worth))
    return book


def slow_in(book, tree, node, name, upto):
    return all(sheet in tree.sheets(node) for sheet in book.bearers(name, upto=upto))


def slow_bar(book, tree, node, name, upto):
    if node[0] != 0 or tree.above(node, 1) is None:
        return None
    for other in book.names(rank=0, upto=upto):
        if other < name and book.words(other)[1] == book.words(name)[1] and book.wholly(other, upto=upto) is None:
            if slow_in(book, tree, tree.above(node, 1), other, upto):
                return other
    return None


def slow_fit(book, tree, node, name, upto):
    return (slow_in(book, tree, node, name, upto) and book.struck(name, upto=upto) is None
            and book.taker(name, upto=upto) is None and slow_bar(book, tree, node, name, upto) is None)


def slow_ways(book, tree, node, name, upto):
    return [moment for moment, one, other in book.aheads(upto=upto)
            if other == name and slow_fit(book, tree, node, one, upto)]


def slow_right(book, tree, node, upto):
    fit = [name for name in book.names(rank=node[0], upto=upto) if slow_fit(book, tree, node, name, upto)]
    first = [name for name in fit if not slow_ways(book, tree, node, name, upto)]
    return first[0] if first else None


def slow_why(book, tree, node, name, upto):
    out = [sheet for sheet in book.bearers(name, upto=upto) if sheet not in tree.sheets(node)]
    ways = slow_ways(book, tree, node, name, upto)
    told = [("elsewhere", out[0] if out else None), ("struck", book.struck(name, upto=upto)),
            ("taken", book.taker(name, upto=upto)), ("barred", slow_bar(book, tree, node, name, upto)),
            ("gives way", ways[0] if ways else None)]
    for reason, thing in told:
        if thing is not None:
            return (reason, thing)
    best = slow_right(book, tree, node, upto)
    return None if best == name else ("younger", best)


def some_records(chance):
    """Records of a book that can be told, names of ranks 0 to 2 first."""
    records, bases = [], []
    for at in range(chance.randint(1, 9)):
        moment = (1, at + 1)
        elder = [record for record in records if record[0] == "name"]
        rank = chance.choice([0, 0, 0, 1, 2])
        likes = [record[1] for record in elder if (record[2] == 0 if rank == 0 else record[2] < rank)]
        if likes and (rank > 0 or chance.random() < 0.3):
            words = (chance.choice("xy"), chance.choice("mn")) if rank == 0 else (chance.choice("xyz"),)
            records.append(("name", moment, rank, words, (), chance.choice(likes)))
        else:
            sheets = tuple(chance.sample("stuv", chance.randint(1, 2)))
            records.append(("name", moment, 0, (chance.choice("xy"), chance.choice("mno")), sheets, None))
            bases.append(records[-1])
    named = list(records)
    for at in range(chance.randint(0, 8)):
        moment = (2, at + 1)
        sort = chance.choice(["choice", "strike", "strike", "ahead", "ahead", "ahead"])
        name = chance.choice(named)
        others = [other[1] for other in named if other[2] == name[2] and other != name]
        if sort == "choice":
            base = chance.choice(bases)
            records.append(("choice", moment, base[1], chance.choice(base[4])))
        elif sort == "strike":
            records.append(("strike", moment, name[1], chance.random() < 0.4))
        elif others:
            records.append(("ahead", moment, name[1], chance.choice(others)))
    return records


def some_tree(chance):
    kinds = {}
    for sheet in "stuv":
        kinds.setdefault((0, chance.choice("ab")), []).append(sheet)
    parents = {node: chance.choice([F, F, F, G, H, None]) for node in kinds}
    return Tree(kinds, {**parents, F: chance.choice([H, None]), G: H})
