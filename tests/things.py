"""Things of any sort, for every place where the document says "of anything", and small helpers."""

from kindnames.book import Book


class Agreeing:
    """Equal to everything, and not hashable."""

    def __eq__(self, other):
        return True


class Angry:
    """Refuses to be compared or hashed."""

    def __eq__(self, other):
        raise RuntimeError("compared")

    def __hash__(self):
        raise RuntimeError("hashed")


def ring():
    rows = []
    rows.append(rows)
    return rows


def strange():
    """Things that are no word, moment, pair, node, deed, page, record, paper or anything told, made anew."""
    return [
        None, True, False, 0, 1, -1, 5, 10 ** 30, 0.0, 1.0, 1.5, float("nan"), float("inf"), 1j,
        "", " ", "\n", "Aster", "as-ter", "\u00e4ster", "\u0430", "a" * 13, "a b", b"aster", bytearray(b"a"),
        (), [], {}, set(), frozenset(), (None,), [None], {None: None}, ((),), [[]], ring(), (ring(), ring()),
        object(), Agreeing(), Angry(), (Agreeing(), Agreeing()), (Angry(), Angry()), [Agreeing()], [Angry()],
        (Agreeing(), Agreeing(), Agreeing()), (Angry(), Angry(), Angry()), int, len, lambda: 1, range(3),
        iter([]), Ellipsis, NotImplemented, ValueError("x"),
        (True, 1), (0, True), (False, 1), [0, 1], (0,), (0, 1, 1), (-1, 1), (0, -1), (0.0, 1), (0, 1.0), ("0", "1"),
        (0, None), (None, 1), (10 ** 12 + 2, 1), (0, 10 ** 12 + 2),
        [0, "a"], (True, "a"), (False, "a"), (0, ""), (0, "A"), (6, "a"), (-1, "a"), (0, "a", "a"), (0, b"a"),
        (1.0, "a"), ("a", 0), {0: "a"}, {"a": 1},
    ]


def refusal(case, kind, call, *args, **more):
    """The refusal of just this class that a call raises."""
    with case.assertRaises(kind) as caught:
        call(*args, **more)
    case.assertIs(type(caught.exception), kind)
    return caught.exception


def book_of(records):
    """A book made of records, in whatever order is told."""
    book = Book()
    for record in records:
        tell(book, record)
    return book


def tell(book, record):
    sort, moment = record[0], record[1]
    if sort == "name":
        book.publish(moment, record[3], rank=record[2], sheets=record[4], like=record[5])
    elif sort == "choice":
        book.choose(moment, record[2], record[3])
    elif sort == "strike":
        book.strike(moment, record[2], whole=record[3])
    else:
        book.ahead(moment, record[2], record[3])


def shuffled_book(chance, records):
    """A book of records told late and in any order that lets each behind what it names, others told and dropped."""
    book, waiting = Book(), list(records)
    while waiting:
        record = chance.choice(waiting)
        named = [moment for moment in record[2:] if isinstance(moment, tuple) and record[0] != "name"]
        named += [record[5]] if record[0] == "name" and record[5] else []
        if all(moment in book.names() for moment in named):
            tell(book, record)
            waiting.remove(record)
            if chance.random() < 0.3:
                tell(book, ("name", (0, 1), 0, ("x", "m"), ("s",), None))
                tell(book, ("strike", (7, 1), chance.choice(book.names()), True))
                book.drop((7, 1))
                book.drop((0, 1))
    return book
