import itertools
import random
import unittest

from houses import A, B, F, H, RECORDS, call, house_of, named, shuffled_house, some_house_records
from kindnames.errors import (BadMoment, BadName, BadPage, BadSaying, Later, Needed, NoEntry, NoName, NoSheet, SameMoment,
                              Unfit)
from kindnames.house import House
from kindnames.right import right
from kindnames.words import is_moment, is_node, is_pair, is_word
from things import Agreeing, Angry, refusal, strange

ONE = ("ann", (1, 0), A)
OTHER = ("bob", (1, 0), A)

CALLS = [
    lambda house, moment: house.publish(moment, ("rosa", "alba"), sheets=["s"]),
    lambda house, moment: house.choose(moment, (1, 1), "s"),
    lambda house, moment: house.strike(moment, (1, 1)),
    lambda house, moment: house.ahead(moment, (1, 1), (2, 1)),
    lambda house, moment: house.page(moment, "ann", []),
    lambda house, moment: house.say(moment, "ann", ONE, OTHER),
]


class Told(unittest.TestCase):
    def test_by_calls_and_as_records(self):
        called, told = House(), House()
        for record in RECORDS:
            self.assertIsNone(told.tell(record))
            call(called, record)
        for house in [called, told]:
            self.assertEqual(house.records(), RECORDS)
            self.assertEqual(len(house), len(RECORDS))
            for record, want in zip(house.records(), RECORDS):
                self.assertEqual([type(part) for part in record], [type(part) for part in want])

    def test_an_empty_house(self):
        house = House()
        self.assertEqual((len(house), house.records(), house.book().entries(), house.minds().pages()), (0, [], [], []))
        self.assertEqual(house.tree("ann").nodes(), [])

    def test_calls_tell_nothing(self):
        house = House()
        self.assertIsNone(house.publish((1, 1), ("rosa", "alba"), rank=0, sheets=["s"], like=None))
        self.assertIsNone(house.publish((1, 2), ("rosa",), rank=1, like=(1, 1)))
        self.assertIsNone(house.publish((1, 3), ("rosa", "nova"), like=(1, 1)))
        self.assertIsNone(house.choose((2, 1), (1, 1), "s"))
        self.assertIsNone(house.strike((2, 2), (1, 1)))
        self.assertIsNone(house.ahead((2, 3), (1, 3), (1, 1)))
        self.assertIsNone(house.page((2, 4), "ann", []))
        self.assertIsNone(house.say((2, 5), "ann", ONE, OTHER))
        self.assertEqual(house.records()[4:], [
            ("strike", (2, 2), (1, 1), False), ("ahead", (2, 3), (1, 3), (1, 1)), ("page", (2, 4), "ann", ()),
            ("saying", (2, 5), "ann", ONE, OTHER, None, None, None)])
        self.assertIsNone(house.drop((2, 5)))
        self.assertEqual(len(house), 7)

    def test_arguments_by_their_names(self):
        house = House()
        house.publish(moment=(1, 1), words=("rosa", "alba"), rank=0, sheets=["s"], like=None)
        house.publish(moment=(1, 2), words=("rosa", "nova"), like=(1, 1))
        house.choose(moment=(2, 1), name=(1, 1), sheet="s")
        house.strike(moment=(2, 2), name=(1, 1), whole=True)
        house.ahead(moment=(2, 3), name=(1, 2), other=(1, 1))
        house.page(moment=(2, 4), mind="ann", deeds=[("put", ["s"], A)])
        house.say(moment=(2, 5), mind="ann", one=ONE, other=OTHER, both=True, first=False, second=None)
        self.assertEqual(house.records(upto=(2, 3))[-1], ("ahead", (2, 3), (1, 2), (1, 1)))
        self.assertEqual(house.records()[-1], ("saying", (2, 5), "ann", ONE, OTHER, True, False, None))
        house.tell(record=("strike", (2, 6), (1, 1), False))
        house.drop(moment=(2, 6))
        self.assertEqual(len(house), 7)
        self.assertEqual(house.tree(mind="ann", upto=(2, 4)).sheets(A), ["s"])

    def test_up_to_a_pair(self):
        house = house_of(RECORDS)
        for pair in [(0, 0), (1, 0), (1, 1), (1, 2), (1, 3), (2, 2), (3, 2), (4, 0), (10 ** 12 + 1, 0), (10 ** 12, 10 ** 12)]:
            self.assertEqual(house.records(upto=pair), [record for record in RECORDS if record[1] <= pair])
        self.assertEqual(house.records(upto=None), RECORDS)
        for pair in [(1, 1), (2, 0), (2, 3), (9, 0), None]:
            for mind in ["ann", "bob", "cat"]:
                self.assertEqual(house.tree(mind, upto=pair), house.minds().tree(mind, upto=pair))

    def test_trees(self):
        house = house_of(RECORDS)
        self.assertEqual(house.tree("ann").nodes(), [A, B, F])
        self.assertEqual(house.tree("bob").nodes(), [A, F])
        self.assertEqual(house.tree("ann", upto=(1, 1)).nodes(), [])

    def test_in_any_order_that_goes(self):
        chance = random.Random(121)
        for _ in range(60):
            records = some_house_records(chance)
            house = shuffled_house(chance, records)
            self.assertEqual(house.records(), records)
            self.assertEqual(len(house), len(records))

    def test_sheets_and_deeds_are_tuples_and_copies(self):
        house, sheets, deeds = House(), ["t", "s"], [("put", ["s"], A)]
        house.publish((1, 1), ("rosa", "alba"), sheets=sheets)
        house.page((1, 2), "ann", deeds)
        house.tell(("page", (1, 3), "bob", deeds))
        sheets.clear()
        deeds[0][1].append("t")
        deeds.clear()
        want = [("name", (1, 1), 0, ("rosa", "alba"), ("t", "s"), None), ("page", (1, 2), "ann", (("put", ("s",), A),)),
                ("page", (1, 3), "bob", (("put", ("s",), A),))]
        self.assertEqual(house.records(), want)
        house.records().clear()
        self.assertEqual(house.records(), want)


class Own(unittest.TestCase):
    def test_the_book_is_the_askers(self):
        house = house_of(RECORDS)
        book = house.book()
        self.assertEqual(book.entries(), [record for record in RECORDS if record[0] not in ("page", "saying")])
        book.drop((5, 1))
        book.publish((7, 1), ("rosa", "alta"), sheets=["v"])
        book.publish((3, 2), ("rosa", "alta"), sheets=["v"])
        self.assertEqual(house.records(), RECORDS)
        self.assertEqual(len(house.book()), 7)
        self.assertEqual(house.book().aheads(), [((5, 1), (2, 1), (1, 1))])
        house.drop((5, 1))
        self.assertEqual(len(book), 8)
        house.page((7, 1), "ann", [])

    def test_the_minds_are_the_askers(self):
        house = house_of(RECORDS)
        minds = house.minds()
        self.assertEqual([("page", *page) for page in minds.pages()], [record for record in RECORDS if record[0] == "page"])
        minds.drop((1, 2))
        minds.tell((7, 1), "ann", [])
        self.assertEqual(house.records(), RECORDS)
        self.assertEqual(house.tree("ann").nodes(), [A, B, F])
        self.assertEqual(len(house.minds()), 3)
        house.drop((2, 3))
        self.assertEqual(len(minds), 3)

    def test_of_all_that_stands(self):
        house = house_of(RECORDS)
        house.drop((5, 1))
        house.drop((4, 1))
        self.assertEqual(house.book().struck((2, 1)), None)
        self.assertEqual(house.book().aheads(), [])
        self.assertEqual(right(house.book(), house.tree("ann"), A), (2, 1))


class Refused(unittest.TestCase):
    def setUp(self):
        self.house = house_of(RECORDS)

    def refused(self, kind, call_it, *args, **more):
        told = refusal(self, kind, call_it, *args, **more)
        self.assertEqual(self.house.records(), RECORDS)
        self.assertEqual(len(self.house), len(RECORDS))
        self.assertEqual(self.house.book().entries(), house_of(RECORDS).book().entries())
        self.assertEqual(self.house.minds().pages(), house_of(RECORDS).minds().pages())
        return told

    def test_no_two_entries_at_one_moment(self):
        for call_it, record in itertools.product(CALLS, RECORDS):
            self.assertEqual(self.refused(SameMoment, call_it, self.house, record[1]).moment, record[1])
        for record, other in itertools.product(RECORDS, RECORDS):
            same = (record[0], other[1], *record[2:])
            self.assertEqual(self.refused(SameMoment, self.house.tell, same).moment, other[1])

    def test_moments_first_of_all(self):
        house = House()
        for moment, error in [((0, 0), BadMoment), ((1, 1), SameMoment)]:
            if error is SameMoment:
                house.page((1, 1), "ann", [])
            for bad in [lambda: house.publish(moment, None, rank=None, sheets=None, like=0), lambda: house.choose(moment, None, None),
                        lambda: house.strike(moment, None), lambda: house.ahead(moment, None, None),
                        lambda: house.page(moment, None, None), lambda: house.say(moment, None, None, None, both=0),
                        lambda: house.tell(("name", moment, None, None, None, 0)), lambda: house.tell(("choice", moment, None, None)),
                        lambda: house.tell(("strike", moment, None, False)), lambda: house.tell(("ahead", moment, None, None)),
                        lambda: house.tell(("page", moment, None, None)),
                        lambda: house.tell(("saying", moment, None, None, None, 0, 0, 0))]:
                self.assertEqual(refusal(self, error, bad).moment, moment)

    def test_no_moment_of_anything(self):
        for thing in strange() + [[1, 1], (0, 0), (-1, 1)]:
            if is_moment(thing):
                continue
            for call_it in CALLS:
                self.assertIs(self.refused(BadMoment, call_it, self.house, thing).moment, thing)
            for record in RECORDS[:7]:
                self.assertIs(self.refused(BadMoment, self.house.tell, (record[0], thing, *record[2:])).moment, thing)

    def test_what_a_book_refuses(self):
        house = self.house
        for part, more in [("rank", {"rank": 6}), ("words", {"rank": 1}), ("sheets", {}), ("like", {"like": 0})]:
            self.assertEqual(self.refused(BadName, house.publish, (7, 1), ("rosa", "alba"), **more).part, part)
        self.assertEqual(self.refused(BadName, house.tell, ("name", (7, 1), 0, ("rosa", "alba"), (), None)).part, "sheets")
        for bad in [lambda: house.publish((7, 1), ("a", "b"), like=(1, 2)), lambda: house.choose((7, 1), (1, 2), "s"),
                    lambda: house.strike((7, 1), (1, 2)), lambda: house.ahead((7, 1), (1, 2), (1, 1)),
                    lambda: house.ahead((7, 1), (1, 1), (1, 2)), lambda: house.tell(("strike", (7, 1), (1, 2), True))]:
            # A page's moment is no name's.
            self.assertEqual(self.refused(NoName, bad).moment, (1, 2))
        for bad in [lambda: house.publish((1, 3), ("a", "b"), like=(2, 1)), lambda: house.choose((1, 3), (2, 1), "s"),
                    lambda: house.strike((1, 3), (2, 1)), lambda: house.ahead((1, 3), (1, 1), (2, 1)),
                    lambda: house.tell(("ahead", (1, 3), (2, 1), (1, 1)))]:
            self.assertEqual(self.refused(Later, bad).moment, (2, 1))
        for bad, moment in [(lambda: house.publish((7, 1), ("a",), rank=1, like=(2, 2)), (2, 2)),
                            (lambda: house.choose((7, 1), (2, 1), "s"), (2, 1)),
                            (lambda: house.ahead((7, 1), (1, 1), (2, 2)), (2, 2)),
                            (lambda: house.tell(("choice", (7, 1), (2, 2), "s")), (2, 2))]:
            self.assertEqual(self.refused(Unfit, bad).moment, moment)
        self.assertEqual(self.refused(NoSheet, house.choose, (7, 1), (1, 1), "u").sheet, "u")
        self.assertEqual(self.refused(NoSheet, house.tell, ("choice", (7, 1), (1, 1), "u")).sheet, "u")

    def test_what_minds_refuse(self):
        for mind, deeds, place in [("Ann", [], -1), ("ann", None, -1), ("ann", [("out", [])], 0),
                                   ("ann", [("join", A, B), ("take", "ann"), ("take", "ann")], 2)]:
            self.assertEqual(self.refused(BadPage, self.house.page, (7, 1), mind, deeds).place, place)
            self.assertEqual(self.refused(BadPage, self.house.tell, ("page", (7, 1), mind, deeds)).place, place)

    def part(self, mind="ann", one=ONE, other=OTHER, **more):
        told = self.refused(BadSaying, self.house.say, (7, 1), mind, one, other, **more).part
        record = ("saying", (7, 1), mind, one, other, more.get("both"), more.get("first"), more.get("second"))
        self.assertEqual(refusal(self, BadSaying, self.house.tell, record).part, told)
        return told

    def test_sayings(self):
        for mind in ["", "Ann", None, 5, ("ann",), b"ann", "a b"]:
            self.assertEqual(self.part(mind=mind), "mind")
        for bad in [None, (), ONE[:2], (*ONE, A), list(ONE), ("Ann", (1, 0), A), (None, (1, 0), A), ("ann", None, A),
                    ("ann", (1,), A), ("ann", (1, -1), A), ("ann", (10 ** 12 + 2, 0), A), ("ann", [1, 0], A), ("ann", (1, 0), None),
                    ("ann", (1, 0), (6, "a")), ("ann", (1, 0), [0, "a"]), ("ann", (1, True), A), ("ann", (1, 0), (False, "a"))]:
            self.assertEqual(self.part(one=bad), "one")
            self.assertEqual(self.part(other=bad), "other")
        # Both of one mind up to one pair, whatever the nodes.
        for node in [A, B, F, H]:
            self.assertEqual(self.part(other=("ann", (1, 0), node)), "other")
        for thing in [0, 1, "", "some", 0.0, [], (True,)]:
            for part in ["both", "first", "second"]:
                self.assertEqual(self.part(**{part: thing}), part)

    def test_the_first_part_of_a_saying_that_is_due(self):
        self.assertEqual(self.part(None, None, None, both=0, first=0, second=0), "mind")
        self.assertEqual(self.part("ann", None, None, both=0, first=0, second=0), "one")
        self.assertEqual(self.part("ann", ONE, None, both=0, first=0, second=0), "other")
        self.assertEqual(self.part("ann", ONE, ONE, both=0, first=0, second=0), "other")
        self.assertEqual(self.part(both=0, first=0, second=0), "both")
        self.assertEqual(self.part(both=True, first=0, second=0), "first")
        self.assertEqual(self.part(both=True, first=None, second=0), "second")

    def test_sayings_of_anything(self):
        for thing in strange():
            if not is_word(thing):
                self.assertEqual(self.part(mind=thing), "mind")
                self.assertEqual(self.part(one=(thing, (1, 0), A)), "one")
                self.assertEqual(self.part(other=(thing, (1, 0), A)), "other")
            if not is_pair(thing):
                self.assertEqual(self.part(one=("ann", thing, A)), "one")
                self.assertEqual(self.part(other=("bob", thing, A)), "other")
            if not is_node(thing):
                self.assertEqual(self.part(one=("ann", (1, 0), thing)), "one")
                self.assertEqual(self.part(other=("bob", (1, 0), thing)), "other")
            self.assertEqual(self.part(one=thing), "one")
            self.assertEqual(self.part(other=thing), "other")
            if thing is not None and thing is not True and thing is not False:
                for part in ["both", "first", "second"]:
                    self.assertEqual(self.part(**{part: thing}), part)

    def test_sayings_by_their_form_alone(self):
        # Of minds without pages, of nodes that no tree has, of one mind up to two pairs.
        house = House()
        house.say((1, 1), "zed", ("x", (9, 9), (5, "q")), ("y", (0, 0), H), both=True)
        house.say((1, 2), "zed", ("x", (9, 9), A), ("x", (9, 8), A))
        house.say((1, 3), "zed", ("x", (9, 9), A), ("y", (9, 9), A))
        self.assertEqual(len(house), 3)


class Dropped(unittest.TestCase):
    def test_any_entry(self):
        for record in RECORDS:
            house = house_of(RECORDS)
            users = [each[1] for each in RECORDS if record[1] in named(each)]
            if users:
                told = refusal(self, Needed, house.drop, record[1])
                self.assertEqual((told.moment, told.by), (record[1], users[0]))
                self.assertEqual(house.records(), RECORDS)
                continue
            house.drop(record[1])
            rest = [each for each in RECORDS if each != record]
            self.assertEqual(house.records(), rest)
            self.assertEqual(len(house), len(rest))
            self.assertEqual(refusal(self, NoEntry, house.drop, record[1]).moment, record[1])
            # Its moment is free for an entry of each sort.
            house.page(record[1], "ann", [])
            house.drop(record[1])
            house.say(record[1], "ann", ONE, OTHER)
            house.drop(record[1])
            house.tell(record)
            self.assertEqual(house.records(), RECORDS)

    def test_all_from_the_last_one_on(self):
        house = house_of(RECORDS)
        for record in RECORDS[::-1]:
            house.drop(record[1])
        self.assertEqual((len(house), house.records(), house.tree("ann").nodes()), (0, [], []))
        for record in RECORDS:
            house.tell(record)
        self.assertEqual(house.records(), RECORDS)

    def test_no_entry_of_anything(self):
        house = house_of(RECORDS)
        for thing in strange() + [(1, 3), (1, 0), (0, 1), [1, 1], (True, 1), (1, True), (1.0, 1)]:
            told = refusal(self, NoEntry, house.drop, thing)
            self.assertIs(told.moment, thing)
        self.assertEqual(house.records(), RECORDS)
        for thing in [Agreeing(), Angry()]:
            refusal(self, NoEntry, House().drop, thing)

    def test_what_is_refused_takes_no_moment(self):
        house = House()
        refusal(self, BadName, house.publish, (1, 1), ())
        refusal(self, BadPage, house.page, (1, 1), "ann", None)
        refusal(self, BadSaying, house.say, (1, 1), "ann", ONE, ONE)
        refusal(self, NoName, house.choose, (1, 1), (0, 1), "s")
        refusal(self, NoName, house.strike, (1, 1), (0, 1))
        refusal(self, NoName, house.ahead, (1, 1), (0, 1), (0, 1))
        refusal(self, NoEntry, house.drop, (1, 1))
        house.page((1, 1), "ann", [])
        self.assertEqual(len(house), 1)


if __name__ == "__main__":
    unittest.main()
