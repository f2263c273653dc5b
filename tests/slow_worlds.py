"""Worlds told slowly, from the document's words: by going through all lists of places of small frames."""

import itertools

from kindnames.frames import Frame, Saying
from kindnames.trees import Tree

PARTS = ("both", "first", "second")


def small_tree(chance):
    kinds = {}
    for sheet in "stu":
        kind = chance.choice([(0, "a"), (0, "b"), None])
        if kind is not None:
            kinds.setdefault(kind, []).append(sheet)
    return Tree(kinds, {(0, "a"): chance.choice([(1, "f"), (2, "h"), None]), (0, "b"): chance.choice([(1, "f"), None]),
                        (1, "f"): chance.choice([(2, "h"), None])})


def small_frame(chance, most=9):
    """The trees of a small frame, and the frame."""
    while True:
        trees = [small_tree(chance) for _ in range(chance.choice([2, 2, 3]))]
        sides = [(number, node) for number, tree in enumerate(trees) for node in tree.nodes()]
        opened = [side for side in sides if chance.random() < 0.2]
        closed = [number for number in range(len(trees)) if chance.random() < 0.3]
        frame = Frame(trees, open_nodes=opened, closed=closed)
        # Sayings take two sides of unlike trees.
        if len({number for number, _ in sides}) > 1 and len(frame.places()) <= most:
            return trees, frame


def some_saying(chance, trees):
    sides = [(number, node) for number, tree in enumerate(trees) for node in tree.nodes()]
    one, other = chance.choice([(one, other) for one in sides for other in sides if one[0] != other[0]])
    both, first, second = [chance.choice([True, False, None, None]) for _ in PARTS]
    return Saying(one, other, both=both, first=first, second=second)


def is_in(trees, place, side):
    number, node = side
    at = place[number]
    while at is not None:
        if at == node:
            return True
        at = trees[number].parent(at)
    return False


def has(trees, saying, part, place):
    one, other = is_in(trees, place, saying.one), is_in(trees, place, saying.other)
    return {"both": one and other, "first": one and not other, "second": other and not one}[part]


def strikes(trees, saying, part, place):
    return getattr(saying, part) is False and has(trees, saying, part, place)


def needs(trees, frame, sayings):
    """A dict from all needs to their places, in order."""
    told = {}
    for sheet in sorted({sheet for tree in trees for sheet in tree.sheets()}):
        told["sheet", sheet] = [place for place in frame.places() if all(
            tree.kind_of(sheet) in (None, item) for tree, item in zip(trees, place))]
    for number, saying in enumerate(sayings):
        for part in PARTS:
            if getattr(saying, part) is True:
                told["saying", number, part] = [
                    place for place in frame.places() if has(trees, saying, part, place)]
    return told


def is_world(trees, frame, sayings, places):
    if not all(place in frame.places() for place in places):
        return False
    if any(strikes(trees, saying, part, place) for place in places for saying in sayings for part in PARTS):
        return False
    return all(any(place in wanted for place in places) for wanted in needs(trees, frame, sayings).values())


def unstruck(trees, frame, sayings):
    return [place for place in frame.places() if not any(
        strikes(trees, saying, part, place) for saying in sayings for part in PARTS)]


def worlds(trees, frame, sayings):
    """All worlds, by going through all lists of places, each place once."""
    every = frame.places()
    lists = itertools.chain.from_iterable(itertools.combinations(every, many) for many in range(len(every) + 1))
    wanted = needs(trees, frame, sayings).values()
    left = unstruck(trees, frame, sayings)
    told = []
    for places in lists:
        if all(place in left for place in places) and all(any(place in row for place in places) for row in wanted):
            told.append(list(places))
    return told


def is_clash(trees, frame, sayings, need, rows):
    wanted = needs(trees, frame, sayings)
    if need not in wanted or [row[0] for row in rows] != wanted[need]:
        return False
    return all(strikes(trees, sayings[number], part, place) for place, number, part in rows)


def is_so(trees, saying, places):
    """Whether a saying is so in a world."""
    for part in PARTS:
        said = getattr(saying, part)
        if said is not None and said != any(has(trees, saying, part, place) for place in places):
            return False
    return True
