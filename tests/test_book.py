import itertools
import random
import unittest

from kindnames.book import Book
from kindnames.errors import Needed, NoEntry, NoName
from things import book_of, refusal

BIG = 10 ** 12


class Records(unittest.TestCase):
    def test_a_book_of_nothing(self):
        book = Book()
        self.assertEqual(len(book), 0)
        self.assertEqual((book.entries(), book.names(), book.aheads()), ([], [], []))
        self.assertEqual((book.entries(upto=(3, 3)), book.names(rank=0, upto=(3, 3))), ([], []))

    def test_entries_stand_by_moments_with_sheets_as_published(self):
        book = Book()
        book.publish((5, 1), ("rosa", "alba"), sheets=["d", "a", "c"])
        book.publish((2, 9), ("rosa", "lutea"), sheets=["b"])
        book.strike((9, 1), (5, 1), whole=True)
        book.strike((9, 2), (2, 9))
        book.publish((7, 3), ("rosa",), rank=1, like=(5, 1))
        told = [
            ("name", (2, 9), 0, ("rosa", "lutea"), ("b",), None),
            ("name", (5, 1), 0, ("rosa", "alba"), ("d", "a", "c"), None),
            ("name", (7, 3), 1, ("rosa",), (), (5, 1)),
            ("strike", (9, 1), (5, 1), True),
            ("strike", (9, 2), (2, 9), False)]
        self.assertEqual(book.entries(), told)
        self.assertEqual(book.entries(upto=(7, 3)), told[:3])
        self.assertEqual(book.entries(upto=(7, 2)), told[:2])
        self.assertEqual(book.entries(upto=(8, 0)), told[:3])
        self.assertEqual(book.entries(upto=(0, 0)), [])
        self.assertEqual(book.entries(upto=(BIG + 1, BIG + 1)), told)
        self.assertEqual(len(book), 5)

    def test_names_of_a_rank_and_up_to(self):
        book = Book()
        book.publish((5, 1), ("rosa", "alba"), sheets=["a"])
        book.publish((2, 1), ("rosa", "lutea"), sheets=["b"])
        book.publish((6, 1), ("rosa",), rank=1, like=(5, 1))
        book.publish((7, 1), ("rosae",), rank=2, like=(6, 1))
        book.choose((8, 1), (5, 1), "a")
        self.assertEqual(book.names(), [(2, 1), (5, 1), (6, 1), (7, 1)])
        self.assertEqual(book.names(rank=0), [(2, 1), (5, 1)])
        self.assertEqual(book.names(rank=1), [(6, 1)])
        self.assertEqual(book.names(rank=4), [])
        self.assertEqual(book.names(upto=(5, 1)), [(2, 1), (5, 1)])
        self.assertEqual(book.names(rank=0, upto=(5, 0)), [(2, 1)])
        self.assertEqual(book.words((5, 1)), ("rosa", "alba"))
        self.assertEqual(book.words((7, 1)), ("rosae",))
        self.assertEqual([book.rank(name) for name in book.names()], [0, 0, 1, 2])

    def test_what_was_handed_in_and_what_is_told_may_be_changed(self):
        book = Book()
        sheets = ["b", "a"]
        book.publish((1, 1), ("rosa", "alba"), sheets=sheets)
        sheets.append("c")
        sheets[0] = "x"
        self.assertEqual(book.bearers((1, 1)), ["a", "b"])
        book.publish((1, 2), ("rosa", "nova"), sheets=["q"])
        book.ahead((2, 1), (1, 2), (1, 1))
        for ask in [book.entries, book.names, book.aheads, lambda: book.bearers((1, 1))]:
            before = ask()
            ask().clear()
            ask().append("nonsense")
            self.assertEqual(ask(), before)
        self.assertEqual(sheets, ["x", "a", "c"])

    def test_what_was_told_stays_as_it_was(self):
        book = Book()
        book.publish((1, 1), ("rosa", "alba"), sheets=["b", "a"])
        entries, names, bearers, aheads = book.entries(), book.names(), book.bearers((1, 1)), book.aheads()
        book.publish((1, 2), ("rosa", "alba"), sheets=["b", "a"])
        book.choose((2, 1), (1, 1), "a")
        book.ahead((2, 2), (1, 2), (1, 1))
        self.assertEqual(entries, [("name", (1, 1), 0, ("rosa", "alba"), ("b", "a"), None)])
        self.assertEqual((names, bearers, aheads), ([(1, 1)], ["a", "b"], []))

    def test_told_are_plain_tuples_and_truths(self):
        book = Book()
        book.publish((1, 1), ("rosa", "alba"), sheets=["b", "a"])
        book.strike((2, 1), (1, 1))
        for record in book.entries():
            self.assertIs(type(record), tuple)
        self.assertIs(type(book.entries()[0][4]), tuple)
        self.assertIs(book.entries()[1][3], False)
        self.assertIs(type(book.words((1, 1))), tuple)


class Bases(unittest.TestCase):
    def setUp(self):
        self.book = Book()
        self.book.publish((1, 1), ("rosa", "alba"), sheets=["b", "a", "c"])
        self.book.publish((2, 1), ("rosa", "nova"), like=(1, 1))
        self.book.publish((3, 1), ("malus", "nova"), like=(2, 1))
        self.book.publish((4, 1), ("malus",), rank=1, like=(3, 1))
        self.book.publish((5, 1), ("malae",), rank=5, like=(4, 1))

    def test_likes_lead_to_the_base(self):
        self.assertEqual([self.book.base(name) for name in self.book.names()], [(1, 1)] * 5)

    def test_all_sheets_of_the_base_bear_it(self):
        for name in self.book.names():
            self.assertIsNone(self.book.chosen(name))
            self.assertEqual(self.book.bearers(name), ["a", "b", "c"])

    def test_the_eldest_choice_counts_whenever_it_is_told(self):
        self.book.choose((9, 1), (1, 1), "c")
        self.assertEqual(self.book.chosen((5, 1)), "c")
        self.book.choose((7, 2), (1, 1), "b")
        self.assertEqual(self.book.chosen((5, 1)), "b")
        self.book.choose((8, 2), (1, 1), "a")
        for name in self.book.names():
            self.assertEqual(self.book.chosen(name), "b")
            self.assertEqual(self.book.bearers(name), ["b"])
            self.assertIsNone(self.book.chosen(name, upto=(7, 1)))
            self.assertEqual(self.book.bearers(name, upto=(7, 1)), ["a", "b", "c"])
            self.assertEqual(self.book.chosen(name, upto=(7, 2)), "b")
            self.assertEqual(self.book.chosen(name, upto=(7, 3)), "b")
        self.book.drop((7, 2))
        self.assertEqual(self.book.chosen((5, 1)), "a")
        self.assertEqual(self.book.chosen((5, 1), upto=(8, 1)), None)

    def test_an_only_sheet_is_chosen_without_a_choice(self):
        self.book.publish((1, 2), ("pyrus", "sola"), sheets=["z"])
        self.book.publish((1, 3), ("pyrus",), rank=1, like=(1, 2))
        self.assertEqual(self.book.chosen((1, 2)), "z")
        self.assertEqual(self.book.chosen((1, 3), upto=(1, 3)), "z")
        self.assertEqual(self.book.bearers((1, 3)), ["z"])

    def test_the_same_sheet_may_be_chosen_again(self):
        self.book.choose((6, 1), (1, 1), "a")
        self.book.choose((6, 2), (1, 1), "a")
        self.book.drop((6, 1))
        self.assertEqual(self.book.chosen((1, 1)), "a")


class Strikes(unittest.TestCase):
    def setUp(self):
        self.book = Book()
        self.book.publish((1, 1), ("rosa", "alba"), sheets=["a"])
        self.book.publish((2, 1), ("rosa", "alba"), sheets=["b"])
        self.book.publish((3, 1), ("rosa", "alba"), like=(1, 1))

    def test_the_eldest_strike_and_the_eldest_whole_one(self):
        book = self.book
        self.assertEqual((book.struck((1, 1)), book.wholly((1, 1))), (None, None))
        book.strike((6, 1), (1, 1), whole=True)
        self.assertEqual((book.struck((1, 1)), book.wholly((1, 1))), ((6, 1), (6, 1)))
        book.strike((5, 1), (1, 1))
        self.assertEqual((book.struck((1, 1)), book.wholly((1, 1))), ((5, 1), (6, 1)))
        book.strike((7, 1), (1, 1), whole=True)
        book.strike((4, 1), (2, 1), whole=True)
        self.assertEqual((book.struck((1, 1)), book.wholly((1, 1))), ((5, 1), (6, 1)))
        self.assertEqual(book.struck((1, 1), upto=(4, 9)), None)
        self.assertEqual(book.struck((1, 1), upto=(5, 1)), (5, 1))
        self.assertEqual(book.wholly((1, 1), upto=(6, 0)), None)
        self.assertEqual(book.wholly((1, 1), upto=(6, 1)), (6, 1))
        self.assertEqual(book.struck((3, 1)), None)

    def test_the_eldest_elder_name_takes(self):
        book = self.book
        self.assertEqual([book.taker(name) for name in book.names()], [None, (1, 1), (1, 1)])
        book.strike((4, 1), (1, 1))
        self.assertEqual([book.taker(name) for name in book.names()], [None, (1, 1), (1, 1)])
        book.strike((5, 1), (1, 1), whole=True)
        self.assertEqual([book.taker(name) for name in book.names()], [None, None, (2, 1)])
        self.assertEqual([book.taker(name, upto=(5, 0)) for name in book.names()], [None, (1, 1), (1, 1)])
        self.assertEqual([book.taker(name, upto=(5, 1)) for name in book.names()], [None, None, (2, 1)])
        book.strike((6, 1), (2, 1), whole=True)
        self.assertEqual([book.taker(name) for name in book.names()], [None, None, None])

    def test_a_name_told_late_takes(self):
        self.book.publish((0, 1), ("rosa", "alba"), sheets=["z"])
        self.assertEqual(self.book.taker((3, 1)), (0, 1))
        self.assertIsNone(self.book.taker((0, 1)))

    def test_only_the_same_words_of_the_same_rank_take(self):
        book = Book()
        book.publish((1, 1), ("rosa", "alba"), sheets=["a"])
        book.publish((1, 2), ("alba", "rosa"), sheets=["a"])
        book.publish((1, 3), ("rosa", "nova"), sheets=["a"])
        book.publish((2, 1), ("rosa",), rank=1, like=(1, 1))
        book.publish((2, 2), ("rosa",), rank=2, like=(1, 1))
        book.publish((2, 3), ("rosa",), rank=3, like=(2, 1))
        book.publish((2, 4), ("rosa",), rank=2, like=(1, 3))
        self.assertEqual([book.taker(name) for name in book.names()], [None] * 6 + [(2, 2)])


class Drops(unittest.TestCase):
    def test_by_is_the_eldest_that_names_it(self):
        book = Book()
        book.publish((1, 1), ("rosa", "alba"), sheets=["a"])
        book.publish((1, 2), ("rosa", "nova"), sheets=["b"])
        book.ahead((9, 1), (1, 2), (1, 1))
        self.assertEqual(refusal(self, Needed, book.drop, (1, 1)).by, (9, 1))
        self.assertEqual(refusal(self, Needed, book.drop, (1, 2)).by, (9, 1))
        book.strike((8, 1), (1, 1))
        self.assertEqual(refusal(self, Needed, book.drop, (1, 1)).by, (8, 1))
        book.choose((7, 1), (1, 1), "a")
        self.assertEqual(refusal(self, Needed, book.drop, (1, 1)).by, (7, 1))
        book.publish((6, 1), ("rosa",), rank=1, like=(1, 1))
        self.assertEqual(refusal(self, Needed, book.drop, (1, 1)).by, (6, 1))
        for moment in [(6, 1), (7, 1), (8, 1), (9, 1), (1, 1), (1, 2)]:
            book.drop(moment)
        self.assertEqual(len(book), 0)

    def test_dropped_is_gone_and_may_be_told_again(self):
        book = Book()
        book.publish((1, 1), ("rosa", "alba"), sheets=["a", "b"])
        book.choose((2, 1), (1, 1), "a")
        book.drop((2, 1))
        self.assertEqual(book.bearers((1, 1)), ["a", "b"])
        self.assertEqual(refusal(self, NoEntry, book.drop, (2, 1)).moment, (2, 1))
        book.strike((2, 1), (1, 1))
        self.assertEqual(book.struck((1, 1)), (2, 1))
        book.drop((2, 1))
        book.drop((1, 1))
        for ask in [book.words, book.rank, book.base, book.chosen, book.bearers, book.struck, book.wholly, book.taker]:
            self.assertEqual(refusal(self, NoName, ask, (1, 1)).moment, (1, 1))
        refusal(self, NoName, book.strike, (2, 1), (1, 1))
        refusal(self, NoName, book.publish, (2, 1), ("a", "b"), like=(1, 1))
        book.publish((1, 1), ("malus", "nova"), sheets=["c"])
        self.assertEqual(book.entries(), [("name", (1, 1), 0, ("malus", "nova"), ("c",), None)])
        self.assertEqual(book.bearers((1, 1)), ["c"])
        self.assertIsNone(book.struck((1, 1)))

    def test_drop_of_what_is_no_moment(self):
        book = Book()
        book.publish((1, 1), ("rosa", "alba"), sheets=["a", "b"])
        for thing in [(0, 0), [1, 1], (True, 1), None, "1.1", (1, True)]:
            self.assertIs(refusal(self, NoEntry, book.drop, thing).moment, thing)
        self.assertEqual(len(book), 1)


def two_names_and_aheads(aheads):
    many = max([max(pair) for pair in aheads])
    names = [("name", (1, at), 0, ("rosa", "x" * at), ["a"], None) for at in range(1, many + 1)]
    return names, [("ahead", (2, at + 1), (1, one), (1, two)) for at, (one, two) in enumerate(aheads)]


def leads(edges, start, goal):
    """Told the slow way: by all rows of edges without a place twice."""
    if start == goal:
        return True
    return any(leads([edge for edge in edges if edge[0] != start], two, goal) for one, two in edges if one == start)


class Aheads(unittest.TestCase):
    def doing(self, aheads):
        names, told = two_names_and_aheads(aheads)
        return [(one[1], two[1]) for _, one, two in book_of(names + told).aheads()]

    def test_a_ring_of_one_step(self):
        self.assertEqual(self.doing([(1, 2), (2, 1)]), [(1, 2)])
        self.assertEqual(self.doing([(2, 1), (1, 2), (1, 2), (2, 1)]), [(2, 1), (2, 1)])

    def test_a_ring_of_several_steps(self):
        self.assertEqual(self.doing([(1, 2), (2, 3), (3, 4), (4, 1), (4, 2), (1, 4)]), [(1, 2), (2, 3), (3, 4), (1, 4)])

    def test_the_same_two_twice_both_do_something(self):
        self.assertEqual(self.doing([(1, 2), (1, 2)]), [(1, 2), (1, 2)])

    def test_one_that_does_nothing_hinders_none(self):
        self.assertEqual(self.doing([(1, 2), (2, 1), (3, 2), (1, 3)]), [(1, 2), (3, 2), (1, 3)])

    def test_told_in_any_order_and_uptos_and_drops(self):
        names, told = two_names_and_aheads([(1, 2), (2, 3), (3, 1), (3, 2), (1, 3)])
        doing = [row[1:] for row in (told[0], told[1], told[4])]
        for order in itertools.permutations(told):
            book = book_of(names + list(order))
            self.assertEqual(book.aheads(), doing)
        self.assertEqual(book.aheads(upto=(2, 0)), [])
        self.assertEqual(book.aheads(upto=(2, 4)), doing[:2])
        self.assertEqual(book.aheads(upto=(2, 5)), doing)
        book.drop((2, 1))
        self.assertEqual(book.aheads(), [told[1][1:], told[2][1:]])
        book.drop((2, 2))
        self.assertEqual(book.aheads(), [told[2][1:], told[3][1:]])

    def test_ranks_apart(self):
        book = Book()
        book.publish((1, 1), ("rosa", "alba"), sheets=["a"])
        book.publish((1, 2), ("rosa",), rank=1, like=(1, 1))
        book.publish((1, 3), ("malus",), rank=1, like=(1, 1))
        book.publish((1, 4), ("rosa", "nova"), like=(1, 1))
        book.ahead((3, 1), (1, 3), (1, 2))
        book.ahead((2, 1), (1, 1), (1, 4))
        self.assertEqual(book.aheads(), [((2, 1), (1, 1), (1, 4)), ((3, 1), (1, 3), (1, 2))])

    def test_against_a_slow_way(self):
        chance = random.Random(14)
        for _ in range(150):
            aheads = [tuple(chance.sample(range(1, 6), 2)) for _ in range(chance.randint(1, 12))]
            doing = []
            for one, two in aheads:
                if not leads(doing, two, one):
                    doing.append((one, two))
            self.assertEqual(self.doing(aheads), doing)


class AnyOrder(unittest.TestCase):
    def test_all_answers_are_those_of_the_entries_that_stand(self):
        records = [
            ("name", (1, 1), 0, ("rosa", "alba"), ("b", "a"), None),
            ("name", (1, 2), 0, ("rosa", "alba"), (), (1, 1)),
            ("name", (1, 3), 1, ("rosa",), (), (1, 2)),
            ("choice", (2, 1), (1, 1), "b"), ("choice", (2, 2), (1, 1), "a"),
            ("strike", (3, 1), (1, 1), False), ("strike", (3, 2), (1, 1), True),
            ("ahead", (4, 1), (1, 2), (1, 1)), ("ahead", (4, 2), (1, 1), (1, 2))]
        chance = random.Random(4)
        told = self.answers(book_of(records))
        for _ in range(60):
            rest = records[3:]
            chance.shuffle(rest)
            book = book_of(records[:3] + rest)
            self.assertEqual(self.answers(book), told)
            out = chance.sample(rest, 3)
            for record in out:
                book.drop(record[1])
            left = [record for record in records if record not in out]
            self.assertEqual(self.answers(book), self.answers(book_of(left)))
            for record in out:
                self.assertNotIn(record, book.entries())

    def answers(self, book):
        rows = [book.entries(), book.names(), book.aheads(), len(book)]
        for upto in [None, (1, 2), (2, 1), (3, 1), (4, 1)]:
            for name in book.names(upto=upto):
                rows.append([book.chosen(name, upto=upto), book.bearers(name, upto=upto), book.taker(name, upto=upto),
                             book.struck(name, upto=upto), book.wholly(name, upto=upto)])
            rows.append([book.entries(upto=upto), book.aheads(upto=upto)])
        return rows


if __name__ == "__main__":
    unittest.main()
