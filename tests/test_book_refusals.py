import unittest

from kindnames.book import Book
from kindnames.errors import (BadMoment, BadName, Later, Needed, NoEntry, NoName, NoSheet, SameMoment, Unfit)
from kindnames.words import is_moment
from things import refusal, strange

BIG = 10 ** 12


def some_book():
    book = Book()
    book.publish((1, 1), ("rosa", "alba"), sheets=["b", "a"])
    book.publish((1, 2), ("rosa", "lutea"), sheets=["c"])
    book.publish((2, 1), ("rosa", "nova"), like=(1, 1))
    book.publish((2, 2), ("rosae",), rank=2, like=(2, 1))
    book.choose((3, 1), (1, 1), "a")
    book.strike((3, 2), (1, 2))
    book.ahead((4, 1), (2, 1), (1, 1))
    book.publish((9, 1), ("malus", "late"), sheets=["z"])
    return book


class Refused(unittest.TestCase):
    def setUp(self):
        self.book = some_book()
        self.before = self.book.entries()

    def tearDown(self):
        self.assertEqual(self.book.entries(), self.before)
        self.assertEqual(self.book.entries(), some_book().entries())
        self.assertEqual(len(self.book), 8)

    def refused(self, kind, field, worth, call, *args, **more):
        told = refusal(self, kind, call, *args, **more)
        self.assertEqual(getattr(told, field), worth)
        return told

    def all_calls(self, moment):
        book = self.book
        return [
            (book.publish, (moment, ("a", "b")), {"sheets": ["s"]}), (book.publish, (moment, 7), {"rank": "x"}),
            (book.choose, (moment, (1, 1), "a"), {}), (book.choose, (moment, None, None), {}),
            (book.strike, (moment, (1, 1)), {}), (book.strike, (moment, "no"), {"whole": True}),
            (book.ahead, (moment, (1, 1), (1, 2)), {}), (book.ahead, (moment, None, None), {}),
        ]

    def test_bad_moment_of_anything_goes_first(self):
        for thing in strange() + [(0, 0), (BIG + 1, 1), (1, BIG + 1), [5, 1]]:
            if is_moment(thing):
                continue
            for call, args, more in self.all_calls(thing):
                with self.subTest(thing=repr(type(thing)), call=call.__name__):
                    self.assertIs(refusal(self, BadMoment, call, *args, **more).moment, thing)

    def test_same_moment_goes_ahead_of_the_rest(self):
        for moment in [(1, 1), (3, 1), (3, 2), (4, 1)]:
            for call, args, more in self.all_calls(moment):
                self.refused(SameMoment, "moment", moment, call, *args, **more)

    def test_rank(self):
        for thing in strange() + [6, -1, 10 ** 9]:
            if type(thing) is int and 0 <= thing <= 5:
                continue
            with self.subTest(thing=repr(type(thing))):
                self.refused(BadName, "part", "rank", self.book.publish, (5, 1), 3, rank=thing, sheets=3, like=3)

    def test_words(self):
        bad = ["ab", "a", ["a", "b"], ("a",), ("a", "b", "c"), ("a", "B"), ("", "b"), ("a", "b" * 13), ("a", None),
               ("a", ("b",)), {"a": 1, "b": 2}]
        for thing in strange() + bad:
            with self.subTest(thing=repr(type(thing))):
                self.refused(BadName, "part", "words", self.book.publish, (5, 1), thing, sheets=7, like=7)
                self.refused(BadName, "part", "words", self.book.publish, (5, 1), thing, sheets=["s"])
        for thing in strange() + [("a", "b"), ["a"], "a", (), ("A",), ("a" * 13,), (None,)]:
            for rank in (1, 2, 3, 4, 5):
                self.refused(BadName, "part", "words", self.book.publish, (5, 1), thing, rank=rank, sheets=7, like=7)

    def test_sheets_of_a_name_of_its_own(self):
        bad = [[], (), ["a", "a"], ["a", "b", "a"], ["A"], ["a", ""], "ab", "a", {"a": 1}, {"a"}, [["a"]], ["a", None]]
        for thing in strange() + bad:
            with self.subTest(thing=repr(type(thing))):
                self.refused(BadName, "part", "sheets", self.book.publish, (5, 1), ("a", "b"), sheets=thing)

    def test_sheets_where_there_are_none(self):
        for thing in strange() + [["s"], ("s",), "", "s", {"s": 1}]:
            if type(thing) in (list, tuple) and len(thing) == 0:
                continue
            with self.subTest(thing=repr(type(thing))):
                publish = self.book.publish
                self.refused(BadName, "part", "sheets", publish, (5, 1), ("a", "b"), sheets=thing, like=(1, 1))
                self.refused(BadName, "part", "sheets", publish, (5, 1), ("a", "b"), sheets=thing, like="no moment")
                self.refused(BadName, "part", "sheets", publish, (5, 1), ("a",), rank=1, sheets=thing, like=(1, 1))
                self.refused(BadName, "part", "sheets", publish, (5, 1), ("a",), rank=5, sheets=thing)

    def test_like(self):
        for thing in strange() + [[1, 1], (True, 1), (1, 0), "1.1"]:
            if is_moment(thing):
                continue
            with self.subTest(thing=repr(type(thing))):
                self.refused(BadName, "part", "like", self.book.publish, (5, 1), ("a",), rank=1, like=thing)
                if thing is not None:
                    self.refused(BadName, "part", "like", self.book.publish, (5, 1), ("a", "b"), like=thing)

    def test_like_of_no_name_later_unfit(self):
        publish = self.book.publish
        for moment in [(7, 7), (5, 1), (3, 1), (3, 2), (4, 1), (99, 1)]:
            self.refused(NoName, "moment", moment, publish, (5, 1), ("a", "b"), like=moment)
            self.refused(NoName, "moment", moment, publish, (5, 1), ("a",), rank=3, like=moment)
        self.refused(Later, "moment", (9, 1), publish, (5, 1), ("a", "b"), like=(9, 1))
        self.refused(Later, "moment", (2, 2), publish, (0, 1), ("a", "b"), like=(2, 2))
        self.refused(Later, "moment", (2, 2), publish, (0, 1), ("a",), rank=1, like=(2, 2))
        self.refused(Unfit, "moment", (2, 2), publish, (5, 1), ("a", "b"), like=(2, 2))
        self.refused(Unfit, "moment", (2, 2), publish, (5, 1), ("a",), rank=1, like=(2, 2))
        self.refused(Unfit, "moment", (2, 2), publish, (5, 1), ("a",), rank=2, like=(2, 2))

    def test_choice(self):
        choose = self.book.choose
        for moment in [(7, 7), (3, 1), (4, 1)]:
            self.refused(NoName, "moment", moment, choose, (5, 1), moment, "a")
        self.refused(Later, "moment", (9, 1), choose, (5, 1), (9, 1), "not its own")
        self.refused(Unfit, "moment", (2, 1), choose, (5, 1), (2, 1), "a")
        self.refused(Unfit, "moment", (2, 2), choose, (5, 1), (2, 2), "not its own")
        for sheet in ["c", "z", "", "A", "a b", "ab", "nothing that is a word"]:
            self.refused(NoSheet, "sheet", sheet, choose, (5, 1), (1, 1), sheet)
        self.refused(NoSheet, "sheet", "a", choose, (5, 1), (1, 2), "a")

    def test_strike(self):
        for whole in (True, False):
            for moment in [(7, 7), (3, 1), (3, 2), (4, 1)]:
                self.refused(NoName, "moment", moment, self.book.strike, (5, 1), moment, whole=whole)
            self.refused(Later, "moment", (9, 1), self.book.strike, (5, 1), (9, 1), whole=whole)

    def test_ahead(self):
        ahead = self.book.ahead
        self.refused(NoName, "moment", (7, 7), ahead, (5, 1), (7, 7), (8, 8))
        self.refused(NoName, "moment", (8, 8), ahead, (5, 1), (1, 1), (8, 8))
        self.refused(NoName, "moment", (3, 1), ahead, (5, 1), (1, 1), (3, 1))
        self.refused(Later, "moment", (9, 1), ahead, (5, 1), (9, 1), (8, 8))
        self.refused(NoName, "moment", (8, 8), ahead, (5, 1), (8, 8), (9, 1))
        self.refused(Later, "moment", (9, 1), ahead, (5, 1), (1, 1), (9, 1))
        self.refused(Later, "moment", (9, 1), ahead, (5, 1), (9, 1), (9, 1))
        self.refused(Later, "moment", (9, 1), ahead, (5, 1), (2, 2), (9, 1))
        self.refused(Unfit, "moment", (1, 1), ahead, (5, 1), (1, 1), (1, 1))
        self.refused(Unfit, "moment", (2, 2), ahead, (5, 1), (1, 1), (2, 2))
        self.refused(Unfit, "moment", (1, 1), ahead, (5, 1), (2, 2), (1, 1))

    def test_drop(self):
        for moment in [(7, 7), (5, 1), (0, 1)]:
            self.refused(NoEntry, "moment", moment, self.book.drop, moment)
        told = self.refused(Needed, "by", (2, 1), self.book.drop, (1, 1))
        self.assertEqual(told.moment, (1, 1))
        told = self.refused(Needed, "by", (3, 2), self.book.drop, (1, 2))
        self.assertEqual(told.moment, (1, 2))
        told = self.refused(Needed, "by", (2, 2), self.book.drop, (2, 1))
        self.assertEqual(told.moment, (2, 1))

    def test_asks_of_no_name(self):
        book = self.book
        asks = [book.words, book.rank, book.base, book.chosen, book.bearers, book.struck, book.wholly, book.taker]
        for ask in asks:
            for moment in [(7, 7), (3, 1), (3, 2), (4, 1), (0, 0), (True, 1)]:
                self.refused(NoName, "moment", moment, ask, moment)

    def test_asks_of_a_name_that_is_not_there_up_to_the_pair(self):
        book = self.book
        for ask in [book.chosen, book.bearers, book.struck, book.wholly, book.taker]:
            for upto in [(0, 0), (1, BIG + 1), (2, 0)]:
                self.refused(NoName, "moment", (2, 1), ask, (2, 1), upto=upto)
            ask((2, 1), upto=(2, 1))
            ask((2, 1), upto=(BIG + 1, BIG + 1))

    def test_no_name_has_a_strange_moment(self):
        for thing in strange():
            if not is_moment(thing):
                self.assertIs(refusal(self, NoName, self.book.words, thing).moment, thing)


class Taken(unittest.TestCase):
    """What is not refused, at the edges."""

    def test_moments_at_their_ends(self):
        book = Book()
        for moment in [(0, 1), (BIG, 1), (0, BIG), (BIG, BIG)]:
            book.publish(moment, ("a", "b"), sheets=["s"])
        self.assertEqual(book.names(), [(0, 1), (0, BIG), (BIG, 1), (BIG, BIG)])

    def test_lists_handed_in_as_tuples_and_parts_by_their_names(self):
        book = Book()
        book.publish(moment=(1, 1), words=("a", "a"), rank=0, sheets=("c", "b"), like=None)
        book.publish((1, 2), ("f",), rank=1, sheets=[], like=(1, 1))
        book.publish((1, 3), ("f",), rank=1, sheets=(), like=(1, 1))
        book.choose(moment=(2, 1), name=(1, 1), sheet="c")
        book.strike(moment=(2, 2), name=(1, 1), whole=True)
        book.ahead(moment=(2, 3), name=(1, 3), other=(1, 2))
        self.assertEqual(book.entries(), [
            ("name", (1, 1), 0, ("a", "a"), ("c", "b"), None), ("name", (1, 2), 1, ("f",), (), (1, 1)),
            ("name", (1, 3), 1, ("f",), (), (1, 1)), ("choice", (2, 1), (1, 1), "c"),
            ("strike", (2, 2), (1, 1), True), ("ahead", (2, 3), (1, 3), (1, 2))])
        self.assertEqual(book.bearers(name=(1, 2), upto=None), ["c"])
        book.drop(moment=(2, 3))
        self.assertEqual(len(book), 5)

    def test_all_that_is_told_is_none(self):
        book = Book()
        self.assertIsNone(book.publish((1, 1), ("a", "b"), sheets=["s"]))
        self.assertIsNone(book.publish((1, 2), ("a", "b"), sheets=["s"]))
        self.assertIsNone(book.choose((2, 1), (1, 1), "s"))
        self.assertIsNone(book.strike((2, 2), (1, 1)))
        self.assertIsNone(book.ahead((2, 3), (1, 1), (1, 2)))
        self.assertIsNone(book.drop((2, 3)))

    def test_every_lesser_rank_will_do(self):
        for rank in (1, 2, 3, 4, 5):
            for other in range(rank):
                book = Book()
                book.publish((1, 1), ("a", "b"), sheets=["s"])
                if other > 0:
                    book.publish((1, 2), ("g",), rank=other, like=(1, 1))
                book.publish((1, 3), ("h",), rank=rank, like=max(book.names()))
                self.assertEqual(book.base((1, 3)), (1, 1))


if __name__ == "__main__":
    unittest.main()
