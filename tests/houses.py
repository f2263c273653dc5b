"""Houses for tests: one with entries of each sort, and chance ones."""

from kindnames.house import House
from slow_right import some_records
from things import tell

A, B, C = (0, "a"), (0, "b"), (0, "c")
F, G, H = (1, "f"), (1, "g"), (2, "h")

# Of each sort, by moments: names with sheets and like others, deeds of each sort, sayings of all three values.
RECORDS = [
    ("name", (1, 1), 0, ("rosa", "alba"), ("t", "s"), None),
    ("page", (1, 2), "ann", (("put", ("s", "t"), A), ("put", ("u",), B), ("move", A, F), ("move", B, F))),
    ("name", (2, 1), 0, ("rosa", "nova"), (), (1, 1)),
    ("name", (2, 2), 1, ("rosa",), (), (1, 1)),
    ("page", (2, 3), "bob", (("take", "ann"), ("join", B, C), ("out", ("u",)), ("move", B, None))),
    ("choice", (3, 1), (1, 1), "s"),
    ("saying", (3, 2), "cat", ("ann", (2, 0), A), ("bob", (3, 0), A), True, False, None),
    ("strike", (4, 1), (2, 1), True),
    ("strike", (4, 2), (1, 1), False),
    ("ahead", (5, 1), (2, 1), (1, 1)),
    ("page", (6, 1), "ann", ()),
    ("saying", (10 ** 12, 10 ** 12), "ann", ("ann", (0, 0), H), ("ann", (10 ** 12 + 1, 10 ** 12 + 1), (5, "x")), None, None, None),
]


def house_of(records):
    """A house told records, in whatever order is told."""
    house = House()
    for record in records:
        house.tell(record)
    return house


def call(house, record):
    """Tell a house an entry by a call."""
    if record[0] == "page":
        house.page(record[1], record[2], list(record[3]))
    elif record[0] == "saying":
        house.say(*record[1:5], both=record[5], first=record[6], second=record[7])
    else:
        tell(house, record)


def named(record):
    """The moments that a record names."""
    if record[0] == "name":
        return [] if record[5] is None else [record[5]]
    return [part for part in record[2:4] if isinstance(part, tuple)] if record[0] in ("choice", "strike", "ahead") else []


def some_deeds(chance):
    """Deeds over the sheets of chance books."""
    sheets = chance.sample("stuv", 4)
    deeds = [("take", chance.choice(["ann", "bob"]))] if chance.random() < 0.2 else []
    while sheets and chance.random() < 0.8:
        some = tuple([sheets.pop() for _ in range(min(len(sheets), chance.randint(1, 2)))])
        deeds.append(("out", some) if chance.random() < 0.15 else ("put", some, chance.choice([A, A, B, C])))
    if chance.random() < 0.3:
        deeds.append(("join", *chance.choice([(A, B), (B, C), (F, G), (C, A)])))
    for node, outer in chance.sample([(A, F), (B, F), (C, G), (F, H), (G, H)], chance.randrange(4)):
        deeds.append(("move", node, outer if chance.random() < 0.9 else None))
    chance.shuffle(deeds)
    return tuple(deeds)


def some_saying_record(chance, moment):
    def side():
        return (chance.choice(["ann", "bob"]), (chance.randrange(5), chance.choice([0, 5])), chance.choice([A, B, F, G, H]))
    one, other = side(), side()
    while one[:2] == other[:2]:
        other = side()
    values = [chance.choice([True, False, None, None]) for _ in range(3)]
    return ("saying", moment, chance.choice(["ann", "cat"]), one, other, *values)


def some_house_records(chance):
    """Records of a house, by moments, any of which may be told behind what it names."""
    records = some_records(chance)
    spare = [(day, page) for day in range(4) for page in range(20, 24)]
    for moment in chance.sample(spare, chance.randrange(6)):
        records.append(("page", moment, chance.choice(["ann", "ann", "bob"]), some_deeds(chance)))
    for moment in chance.sample([(day, page) for day, _ in spare for page in range(30, 32)], chance.randrange(5)):
        if moment not in [record[1] for record in records]:
            records.append(some_saying_record(chance, moment))
    return sorted(records, key=lambda record: record[1])


def shuffled_house(chance, records):
    """A house told records in any order that goes, others told and dropped, some dropped and told again."""
    house, waiting = House(), list(records)
    while waiting:
        record = chance.choice(waiting)
        there = [each[1] for each in house.records()]
        if all(moment in there for moment in named(record)):
            chance.choice([call, House.tell])(house, record)
            waiting.remove(record)
        if there and chance.random() < 0.3:
            moment = chance.choice(there)
            if not any(moment in named(each) for each in house.records()):
                waiting += [each for each in house.records() if each[1] == moment]
                house.drop(moment)
        if chance.random() < 0.2:
            house.page((0, 1), "ann", [("join", A, B), ("put", ["s"], A)])
            house.publish((0, 2), ("x", "m"), sheets=["s"])
            house.drop((0, 1))
            house.drop((0, 2))
    return house
