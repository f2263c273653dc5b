"""What the document promises over the whole program."""

import ast
import pathlib
import random
import unittest

from asks import ask, asks
from houses import RECORDS, house_of, shuffled_house, some_house_records
from kindnames import choices, lies, mays, onetree, printed, puts, rightpapers, texts, ways, worlds
from kindnames.book import Book
from kindnames.called import called, kind_called
from kindnames.minds import Minds
from kindnames.right import right, why_not
from kindnames.trees import Tree
from kindnames.uses import meant

PACKAGE = pathlib.Path(__file__).resolve().parent.parent / "kindnames"


def answers(house, upto, by_names=False):
    return [ask(function, more, by_names) for function, more in asks(house, upto)]


def spoil(thing):
    """Change all lists and dicts in a thing that was told."""
    if isinstance(thing, (list, tuple)):
        for part in thing:
            spoil(part)
    elif isinstance(thing, dict):
        for part in thing.values():
            spoil(part)
    if isinstance(thing, (list, dict)):
        thing.clear()


def shown(thing):
    """A thing that was handed in, as what it holds now."""
    if isinstance(thing, Book):
        return thing.entries()
    if isinstance(thing, Minds):
        return thing.pages()
    if isinstance(thing, Tree):
        return [(node, thing.parent(node), thing.sheets(node)) for node in thing.nodes()]
    if isinstance(thing, (list, tuple)):
        return [shown(part) for part in thing]
    if isinstance(thing, dict):
        return {name: shown(part) for name, part in thing.items()}
    if hasattr(thing, "records"):
        return thing.records()
    return thing.places() if hasattr(thing, "places") else thing


def kinds_of(thing):
    """The sorts of a told thing, all through: which parts are lists, tuples, dicts, numbers, truths."""
    if isinstance(thing, (list, tuple)):
        return (type(thing), [kinds_of(part) for part in thing])
    if isinstance(thing, dict):
        return (dict, [(kinds_of(name), kinds_of(part)) for name, part in thing.items()])
    return type(thing)


class Whole(unittest.TestCase):
    def some_houses(self, seed, many):
        chance = random.Random(seed)
        for _ in range(many):
            yield chance, some_house_records(chance)

    def test_whatever_is_told_in_whatever_order_and_dropped_again(self):
        for chance, records in self.some_houses(171, 20):
            plain = answers(house_of(records), None)
            self.assertEqual(answers(shuffled_house(chance, records), None), plain)

    def test_up_to_a_pair_as_of_a_house_that_was_told_no_more(self):
        for chance, records in self.some_houses(172, 30):
            house = house_of(records)
            pair = chance.choice([record[1] for record in records] + [(1, 0), (2, 0), (1, 25)])
            less = house_of([record for record in records if record[1] <= pair])
            self.assertEqual(answers(house, pair), answers(less, pair))
            # Of all that is told, where no more is told, all but what names the pair itself is the same.
            late = (10 ** 12 + 1, 10 ** 12 + 1)
            self.assertEqual(house.records(upto=late), house.records())
            self.assertEqual(house.tree("ann", upto=late), house.tree("ann"))

    def test_told_again_and_changed_afterwards(self):
        for _, records in self.some_houses(173, 15):
            house = house_of(records)
            for function, more in asks(house, None):
                first = ask(function, more)
                again = ask(function, more)
                self.assertEqual(first, again)
                spoil(again)
                self.assertEqual(ask(function, more), first)

    def test_what_is_handed_in_is_not_changed(self):
        for _, records in self.some_houses(174, 10):
            house = house_of(records)
            for function, more in asks(house, None):
                before = shown(more)
                ask(function, more)
                self.assertEqual(shown(more), before, function)

    def test_arguments_by_places_and_by_names(self):
        for _, records in self.some_houses(175, 8):
            house = house_of(records)
            self.assertEqual(answers(house, None), answers(house, None, by_names=True))
            self.assertEqual(answers(house, (2, 3)), answers(house, (2, 3), by_names=True))

    def test_sorts_of_what_is_told(self):
        # The same sorts by a house told otherwise: no list where there was a tuple.
        for chance, records in self.some_houses(176, 8):
            house = house_of(records)
            other = texts.read_house(texts.show_house(house))
            self.assertEqual([kinds_of(told) for told in answers(house, None)], [kinds_of(told) for told in answers(other, None)])
            self.assertEqual(answers(house, None), answers(other, None))

    def test_one_right_name_or_none(self):
        many = 0
        for _, records in self.some_houses(177, 250):
            house = house_of(records)
            book, tree = house.book(), house.tree("ann")
            words = {}
            for node in tree.nodes():
                names = book.names(rank=node[0])
                first = [name for name in names if why_not(book, tree, node, name) is None]
                best = right(book, tree, node)
                self.assertEqual(first, [] if best is None else [best])
                whys = [why_not(book, tree, node, name) for name in names]
                fit = [why for why in whys if why is None or why[0] in ("gives way", "younger")]
                self.assertEqual(best is None, not fit)
                if node[0] == 0 and called(book, tree, node) is not None:
                    told = called(book, tree, node)
                    self.assertNotIn(told, words)
                    words[told] = node
                    self.assertEqual(kind_called(book, tree, told), node)
                    self.assertEqual(meant(book, house.minds(), told, "ann"), ("kind", node, tree.sheets(node)))
                    many += 1
        self.assertGreater(many, 10)

    def test_papers_are_let_by_their_looks(self):
        looks = {
            rightpapers.right_paper: lambda told, **more: rightpapers.shows_right(paper=told, **more),
            choices.may_be_right: lambda told, **more: choices.shows_may(paper=told, **more),
            choices.must_be_right: lambda told, **more: choices.shows_must(paper=told, **more),
            lies.why_lies: lambda told, **more: lies.shows_lies(paper=told, **more),
            lies.why_one: lambda told, **more: lies.shows_one(paper=told, **more),
            ways.least_way: lambda told, **more: ways.shows_way(steps=told[1], **more),
            puts.fewest_puts: lambda told, **more: puts.shows_puts(paper=told, **more),
            worlds.world: lambda told, **more: (worlds.shows_world(places=told[1], **more) if told[0] == "world" else
                                                worlds.shows_clash(need=told[1], rows=told[2], **more)),
            onetree.one_tree: lambda told, **more: (onetree.keeps_all(groups=told[1], **more) if told[0] == "tree" else
                                                    onetree.shows_no_tree(sheets=told[1], rows=told[2], **more)),
            printed.printed: lambda told, house, **_: printed.shows_printed(house=house, text=told),
        }
        seen = {function: 0 for function in looks}
        for _, records in self.some_houses(178, 25):
            house = house_of(records)
            for function, more in asks(house, None):
                if function in looks:
                    told = ask(function, more)
                    seen[function] += 1
                    self.assertIs(looks[function](told, **more), True, (function, told))
        self.assertGreater(min(seen.values()), 5)

    def test_the_fewest_strikes(self):
        # What wanted tells does it, and none of its strikes can be spared.
        many = 0
        for _, records in self.some_houses(179, 60):
            house = house_of(records)
            for function, more in asks(house, None):
                if function.__name__ != "wanted" or ask(function, more)[0] != "strikes":
                    continue
                rows = ask(function, more)[1]
                many += len(rows) > 0
                self.assertEqual(right(self.struck(house, rows), more["tree"], more["node"]), more["name"])
                for at in range(len(rows)):
                    less = self.struck(house, rows[:at] + rows[at + 1:])
                    self.assertNotEqual(right(less, more["tree"], more["node"]), more["name"])
        self.assertGreater(many, 15)

    def struck(self, house, rows):
        book = house.book()
        for at, (name, why) in enumerate(rows):
            book.strike((99, at + 1), name, whole=why in ("takes", "bars"))
        return book

    def test_only_the_program_refuses_with_its_own_classes(self):
        # Each class is raised somewhere, and no error of Python's own is raised in the package.
        raised = set()
        for path in sorted(PACKAGE.glob("*.py")):
            for node in ast.walk(ast.parse(path.read_text())):
                if isinstance(node, ast.Raise):
                    raised.add(node.exc.func.id)
        self.assertEqual(raised, {"BadMoment", "BadName", "BadTree", "BadPage", "BadFrame", "BadSaying", "Unread", "NoName", "NoEntry",
                                  "NoNode", "NoSheet", "BadSide", "SameMoment", "Later", "Unfit", "Needed", "TooMany"})

    def test_a_house_of_some_two_hundred_entries(self):
        chance = random.Random(180)
        house = house_of(RECORDS)
        names = house.book().names(rank=0)
        sheets = [one + two for one in "klmnop" for two in "abcdefghij"]
        for at in range(190):
            moment = (20 + at, 1)
            if at % 5 == 0:
                house.publish(moment, ("rosa", sheets[at // 5]), sheets=chance.sample(sheets, 2))
                names.append(moment)
            elif at % 5 == 1:
                house.strike(moment, chance.choice(names), whole=chance.random() < 0.5)
            elif at % 5 == 2:
                house.page(moment, chance.choice(["ann", "bob"]), [("put", chance.sample(sheets, 5), (0, chance.choice("abc")))])
            elif at % 5 == 3:
                one, other = chance.sample(names, 2)
                house.ahead(moment, one, other)
            else:
                house.say(moment, "cat", ("ann", (300, 0), (0, "a")), ("bob", (300, 0), (0, chance.choice("abc"))), both=True)
        self.assertEqual(texts.read_house(texts.show_house(house)).records(), house.records())
        for node in house.tree("ann").nodes(rank=0):
            self.assertTrue(printed.shows_printed(house, printed.printed(house, "ann", node, upto=(999, 0))))


if __name__ == "__main__":
    unittest.main()
