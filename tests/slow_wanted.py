"""What nodes are called, wanted names and choices told the slow way, straight from the words of the document."""

import itertools

from slow_right import slow_bar, slow_fit, slow_in, slow_right
from things import book_of


def slow_called(book, tree, node, upto=None):
    best = slow_right(book, tree, node, upto)
    if best is None or node[0] > 0:
        return best and book.words(best)
    family = tree.above(node, 1)
    first = family and slow_right(book, tree, family, upto)
    return first and (book.words(first)[0], book.words(best)[1])


def struck_book(book, whole, plain, upto=None):
    """A copy of what a book has up to a pair, with more strikes behind all of it."""
    records = book.entries(upto=upto)
    last = max([record[1][0] for record in records], default=0)
    more = [(name, True) for name in whole] + [(name, False) for name in plain]
    rows = [("strike", (last + 1, at + 1), name, sort) for at, (name, sort) in enumerate(more)]
    return book_of(records + rows)


def slow_wanted(book, tree, node, name, upto=None):
    """The wanted strikes; the plain ones by trying all sets of them."""
    for sheet in book.bearers(name, upto=upto):
        if sheet not in tree.sheets(node):
            return ("never", "elsewhere", sheet)
    if book.struck(name, upto=upto):
        return ("never", "struck", book.struck(name, upto=upto))
    there = book.names(rank=node[0], upto=upto)
    takes = [other for other in there if other < name and book.words(other) == book.words(name)
             and book.wholly(other, upto=upto) is None]
    bars = []
    while slow_bar(struck_book(book, takes + bars, [], upto), tree, node, name, None):
        bars.append(slow_bar(struck_book(book, takes + bars, [], upto), tree, node, name, None))
    left = struck_book(book, takes + bars, [], upto)
    fit = [other for other in there if other != name and slow_fit(left, tree, node, other, None)]
    sets = [some for many in range(len(fit) + 1) for some in itertools.combinations(fit, many)]
    good = [some for some in sets if slow_right(struck_book(left, [], some), tree, node, None) == name]
    ahead = [other for other in good[0] if any(row[1:] == (other, name) for row in left.aheads())]
    # Whatever plain strikes make it right, they have all of the told ones.
    assert all(set(good[0]) <= set(some) for some in good)
    rows = [(other, "takes") for other in takes] + [(other, "bars") for other in bars]
    rows += [(other, "ahead" if other in ahead else "elder") for other in good[0]]
    return ("strikes", sorted(rows))


def slow_bases(book, upto=None):
    return [name for name in book.names(rank=0, upto=upto) if book.base(name) == name]


def every_choice(book, upto=None):
    bases = slow_bases(book, upto)
    for sheets in itertools.product(*[book.bearers(base, upto=upto) for base in bases]):
        yield dict(zip(bases, sheets))


def slow_rivals(book, tree, node, name, upto):
    """The elder names that bar a name where they are in the family."""
    if node[0] > 0 or tree.above(node, 1) is None:
        return []
    return [other for other in book.names(rank=0, upto=upto) if other < name
            and book.words(other)[1] == book.words(name)[1] and book.wholly(other, upto=upto) is None]


def slow_family(tree, node):
    family = tree.above(node, 1) if node[0] == 0 else None
    return [] if family is None else tree.sheets(family)


def slow_free(book, name, upto):
    return book.struck(name, upto=upto) is None and book.taker(name, upto=upto) is None


def slow_right_by(book, tree, node, choice, upto=None):
    family = slow_family(tree, node)
    for name in book.names(rank=node[0], upto=upto):
        barred = any(choice[book.base(other)] in family for other in slow_rivals(book, tree, node, name, upto))
        if choice[book.base(name)] in tree.sheets(node) and slow_free(book, name, upto) and not barred:
            return name
    return None


def so_why(book, tree, node, name, why, thing, upto):
    """Whether a why that needs no rows is so of a name by a thing."""
    family = slow_family(tree, node)
    if why == "elsewhere":
        return thing is None and not any(sheet in tree.sheets(node) for sheet in book.bearers(name, upto=upto))
    if why == "struck":
        return any(record[:3] == ("strike", thing, name) for record in book.entries(upto=upto))
    if why == "taken":
        return (thing in book.names(rank=node[0], upto=upto) and thing < name and book.words(thing) == book.words(name)
                and book.wholly(thing, upto=upto) is None)
    return thing in slow_rivals(book, tree, node, name, upto) and (
        book.base(thing) == book.base(name) or set(book.bearers(thing, upto=upto)) <= set(family))


def slow_unbarred(book, tree, node, name, wanted, out, upto):
    family = slow_family(tree, node)
    for other in slow_rivals(book, tree, node, name, upto):
        base = book.base(other)
        if base in (book.base(name), book.base(wanted)):
            return False
        if set(book.bearers(base, upto=upto)) & set(family) and base not in out:
            return False
    return True


def slow_look_elder(book, tree, node, wanted, name, rows, upto):
    family, sheets = set(slow_family(tree, node)), set(tree.sheets(node))
    elder = [other for other in book.names(rank=node[0], upto=upto) if other < wanted]
    out = []

    def loose(other):
        return other in elder and slow_free(book, other, upto) and slow_unbarred(book, tree, node, other, wanted, out, upto)

    if rows and not family:
        return False
    for base, why, other in rows:
        if base not in slow_bases(book, upto) or base in out or base == book.base(wanted):
            return False
        if other not in elder or book.base(other) != base:
            return False
        if why == "bars" and other not in slow_rivals(book, tree, node, wanted, upto):
            return False
        if why == "elder" and not (set(book.bearers(base, upto=upto)) & family <= sheets and loose(other)):
            return False
        if why not in ("bars", "elder"):
            return False
        out.append(base)
    stays = loose(name) and (book.base(name) == book.base(wanted) or slow_in(book, tree, node, name, upto))
    return stays


def slow_look_may(book, tree, node, wanted, paper, upto=None):
    """The look at a paper of the right form."""
    if paper[0] == "may":
        return paper[1] in list(every_choice(book, upto)) and slow_right_by(book, tree, node, paper[1], upto) == wanted
    if paper[1] == "elder":
        return slow_look_elder(book, tree, node, wanted, paper[2], paper[3], upto)
    if paper[1] not in ("elsewhere", "struck", "taken", "barred") or list(paper[3]):
        return False
    return so_why(book, tree, node, wanted, paper[1], paper[2], upto)


def slow_look_must(book, tree, node, wanted, paper, upto=None):
    if paper[0] == "not":
        return paper[1] in list(every_choice(book, upto)) and slow_right_by(book, tree, node, paper[1], upto) != wanted
    family = set(slow_family(tree, node))
    if not slow_in(book, tree, node, wanted, upto) or not slow_free(book, wanted, upto):
        return False
    if any(set(book.bearers(other, upto=upto)) & family for other in slow_rivals(book, tree, node, wanted, upto)):
        return False
    if [row[0] for row in paper[1]] != [other for other in book.names(rank=node[0], upto=upto) if other < wanted]:
        return False
    for name, why, thing in paper[1]:
        if why not in ("elsewhere", "struck", "taken", "barred") or not so_why(book, tree, node, name, why, thing, upto):
            return False
    return True


def some_choosy_records(chance):
    """Records of a book with few words and bases of several sheets."""
    records = []
    for at in range(chance.randint(1, 8)):
        rank = chance.choice([0] * 9 + [1, 2])
        likes = [record[1] for record in records if (record[2] == 0 if rank == 0 else record[2] < rank)]
        if likes and (rank > 0 or chance.random() < 0.4):
            words = (chance.choice("wxyz"), chance.choice("mn")) if rank == 0 else (chance.choice("xyz"),)
            records.append(("name", (1, at + 1), rank, words, (), chance.choice(likes)))
        else:
            sheets = tuple(chance.sample("stuvw", chance.randint(1, 3)))
            records.append(("name", (1, at + 1), 0, (chance.choice("wxyz"), chance.choice("mno")), sheets, None))
    named = list(records)
    for at in range(chance.randint(0, 4)):
        moment = (2, at + 1)
        name = chance.choice(named)
        others = [other[1] for other in named if other[2] == name[2] and other != name]
        if chance.random() < 0.15 and name[4]:
            records.append(("choice", moment, name[1], chance.choice(name[4])))
        elif chance.random() < 0.7:
            records.append(("strike", moment, name[1], chance.random() < 0.3))
        elif others:
            records.append(("ahead", moment, name[1], chance.choice(others)))
    return records
