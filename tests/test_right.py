import random
import unittest

from kindnames.book import Book
from kindnames.errors import NoName, NoNode, Unfit
from kindnames.right import right, why_not
from kindnames.trees import Tree
from slow_right import names, slow_fit, slow_right, slow_why, some_records, some_tree
from things import book_of, refusal, strange

A, B, C = (0, "a"), (0, "b"), (0, "c")
F, G, H = (1, "f"), (1, "g"), (2, "h")


class Reasons(unittest.TestCase):
    def setUp(self):
        self.tree = Tree({A: ["s", "t"], B: ["u"], C: ["v"]}, {A: F, B: F, F: H})

    def why(self, book, node=A, upto=None):
        return [why_not(book, self.tree, node, name, upto=upto) for name in book.names(rank=node[0], upto=upto)]

    def test_none_is_right(self):
        self.assertIsNone(right(Book(), self.tree, A))
        book = names(("x one", "u"), ("x two", "su"))
        self.assertIsNone(right(book, self.tree, A))
        self.assertEqual(self.why(book), [("elsewhere", "u"), ("elsewhere", "u")])

    def test_the_eldest_fit_one_is_right(self):
        book = names(("x one", "uv"), ("x two", "st"), ("x three", "s"), ("x four", 2))
        self.assertEqual(right(book, self.tree, A), (2, 1))
        self.assertEqual(self.why(book), [("elsewhere", "u"), None, ("younger", (2, 1)), ("younger", (2, 1))])
        self.assertIsNone(right(book, self.tree, A, upto=(1, 9)))
        self.assertEqual(right(book, self.tree, A, upto=(2, 1)), (2, 1))

    def test_elsewhere_tells_the_first_bearer_by_letters(self):
        book = names(("x one", ["z", "v", "s", "u", "t"]))
        self.assertEqual(self.why(book), [("elsewhere", "u")])
        self.assertEqual(self.why(book, B), [("elsewhere", "s")])
        book.choose((5, 1), (1, 1), "t")
        self.assertEqual(self.why(book), [None])
        self.assertEqual(self.why(book, B), [("elsewhere", "t")])
        self.assertEqual(self.why(book, A, (4, 9)), [("elsewhere", "u")])

    def test_struck(self):
        book = names(("x one", "s"), ("x two", "t"))
        book.strike((9, 1), (1, 1), whole=True)
        book.strike((8, 1), (1, 1))
        self.assertEqual(self.why(book), [("struck", (8, 1)), None])
        self.assertEqual(self.why(book, B), [("elsewhere", "s"), ("elsewhere", "t")])
        self.assertEqual(self.why(book, A, (7, 1)), [None, ("younger", (1, 1))])

    def test_taken(self):
        book = names(("x one", "v"), ("x one", "s"), ("x one", "t"))
        self.assertEqual(self.why(book), [("elsewhere", "v"), ("taken", (1, 1)), ("taken", (1, 1))])
        self.assertIsNone(right(book, self.tree, A))
        book.strike((8, 1), (1, 1))
        self.assertIsNone(right(book, self.tree, A))
        book.strike((9, 1), (1, 1), whole=True)
        self.assertEqual(self.why(book), [("elsewhere", "v"), None, ("taken", (2, 1))])
        book.strike((9, 2), (3, 1))
        self.assertEqual(self.why(book), [("elsewhere", "v"), None, ("struck", (9, 2))])

    def test_barred_by_an_own_word_in_the_family(self):
        book = names(("y one", "u"), ("x one", "s"), ("x two", "t"))
        self.assertEqual(self.why(book), [("elsewhere", "u"), ("barred", (1, 1)), None])
        self.assertEqual(right(book, self.tree, A), (3, 1))
        book.strike((8, 1), (1, 1))
        self.assertEqual(self.why(book), [("elsewhere", "u"), ("barred", (1, 1)), None])
        book.strike((9, 1), (1, 1), whole=True)
        self.assertEqual(self.why(book), [("elsewhere", "u"), None, ("younger", (2, 1))])

    def test_the_eldest_bar_is_told_and_all_its_bearers_are_in_the_family(self):
        book = names(("z one", "uv"), ("y one", "us"), ("w one", "u"), ("x one", "s"))
        self.assertEqual(self.why(book)[3], ("barred", (2, 1)))
        book.choose((9, 1), (1, 1), "u")
        self.assertEqual(self.why(book)[3], ("barred", (1, 1)))
        self.assertEqual(self.why(book, A, (8, 9))[3], ("barred", (2, 1)))
        book.choose((8, 1), (1, 1), "v")
        self.assertEqual(self.why(book)[3], ("barred", (2, 1)))

    def test_a_bar_of_the_kind_itself(self):
        book = names(("y one", "t"), ("x one", "s"))
        self.assertEqual(self.why(book), [None, ("barred", (1, 1))])
        book.strike((8, 1), (1, 1))
        self.assertEqual(self.why(book), [("struck", (8, 1)), ("barred", (1, 1))])
        self.assertIsNone(right(book, self.tree, A))

    def test_a_younger_name_bars_not_and_other_words_bar_not(self):
        book = names(("x one", "s"), ("y one", "u"), ("one x", "u"), ("y two", "u"))
        self.assertEqual(self.why(book), [None] + [("elsewhere", "u")] * 3)

    def test_without_a_family_none_is_barred(self):
        book = names(("y one", "t"), ("x one", "s"))
        for parents in [{}, {A: H}, {A: (5, "i")}, {A: (3, "k")}]:
            tree = Tree({A: ["s", "t"], B: ["u"]}, parents)
            self.assertEqual(why_not(book, tree, A, (2, 1)), ("younger", (1, 1)))
        for parents in [{A: F}, {A: F, F: H}]:
            tree = Tree({A: ["s", "t"], B: ["u"]}, parents)
            self.assertEqual(why_not(book, tree, A, (2, 1)), ("barred", (1, 1)))

    def test_gives_way(self):
        book = names(("x one", "s"), ("x two", "t"), ("x three", "s"))
        book.ahead((6, 1), (3, 1), (1, 1))
        book.ahead((5, 1), (2, 1), (1, 1))
        self.assertEqual(self.why(book), [("gives way", (5, 1)), None, ("younger", (2, 1))])
        self.assertEqual(self.why(book, A, (4, 9)), [None, ("younger", (1, 1)), ("younger", (1, 1))])
        book.ahead((7, 1), (3, 1), (2, 1))
        self.assertEqual(self.why(book), [("gives way", (5, 1)), ("gives way", (7, 1)), None])
        book.strike((9, 1), (2, 1))
        self.assertEqual(self.why(book), [("gives way", (6, 1)), ("struck", (9, 1)), None])
        book.strike((9, 2), (3, 1))
        self.assertEqual(self.why(book), [None, ("struck", (9, 1)), ("struck", (9, 2))])

    def test_one_ahead_that_itself_gives_way_still_lets_the_other_give_way(self):
        book = names(("x one", "s"), ("x two", "t"), ("x three", "s"), ("x four", "t"))
        book.ahead((5, 1), (2, 1), (1, 1))
        book.ahead((5, 2), (4, 1), (2, 1))
        self.assertEqual(self.why(book), [("gives way", (5, 1)), ("gives way", (5, 2)), None, ("younger", (3, 1))])

    def test_aheads_that_do_nothing_or_are_of_names_that_are_not_fit(self):
        book = names(("x one", "s"), ("x two", "t"), ("x three", "u"))
        book.ahead((5, 1), (1, 1), (2, 1))
        book.ahead((5, 2), (2, 1), (1, 1))
        book.ahead((5, 3), (3, 1), (1, 1))
        self.assertEqual(self.why(book), [None, ("gives way", (5, 1)), ("elsewhere", "u")])
        book.drop((5, 1))
        self.assertEqual(self.why(book), [("gives way", (5, 2)), None, ("elsewhere", "u")])

    def test_each_reason_goes_ahead_of_the_next(self):
        book = names(("w one", "s"), ("x one", "s"), ("x one", "su"), ("v five", "s"))
        book.ahead((8, 1), (1, 1), (3, 1))
        self.assertEqual(why_not(book, self.tree, A, (3, 1)), ("elsewhere", "u"))
        book.strike((9, 3), (3, 1))
        self.assertEqual(why_not(book, self.tree, A, (3, 1)), ("elsewhere", "u"))
        book.choose((9, 1), (3, 1), "s")
        self.assertEqual(why_not(book, self.tree, A, (3, 1)), ("struck", (9, 3)))
        book.drop((9, 3))
        self.assertEqual(why_not(book, self.tree, A, (3, 1)), ("taken", (2, 1)))
        book.strike((9, 4), (2, 1), whole=True)
        self.assertEqual(why_not(book, self.tree, A, (3, 1)), ("barred", (1, 1)))
        book.ahead((8, 2), (4, 1), (3, 1))
        self.assertEqual(why_not(book, self.tree, A, (3, 1)), ("barred", (1, 1)))
        book.strike((9, 5), (1, 1), whole=True)
        self.assertEqual(why_not(book, self.tree, A, (3, 1)), ("gives way", (8, 2)))
        book.drop((8, 2))
        self.assertIsNone(why_not(book, self.tree, A, (3, 1)))
        self.assertEqual(why_not(book, self.tree, A, (4, 1)), ("younger", (3, 1)))

    def test_ranks_above_kinds(self):
        book = names(("x one", "s"), ("x two", "v"), ("y three", "u"))
        book.publish((4, 1), ("x",), rank=1, like=(1, 1))
        book.publish((5, 1), ("y",), rank=1, like=(3, 1))
        book.publish((6, 1), ("x",), rank=1, like=(3, 1))
        book.publish((7, 1), ("z",), rank=1, like=(2, 1))
        book.publish((8, 1), ("xa",), rank=2, like=(7, 1))
        book.publish((9, 1), ("xb",), rank=2, like=(4, 1))
        self.assertEqual(self.why(book, F), [None, ("younger", (4, 1)), ("taken", (4, 1)), ("elsewhere", "v")])
        self.assertEqual(self.why(book, H), [("elsewhere", "v"), None])
        self.assertEqual(right(book, self.tree, H), (9, 1))
        book.ahead((9, 2), (5, 1), (4, 1))
        self.assertEqual(self.why(book, F), [("gives way", (9, 2)), None, ("taken", (4, 1)), ("elsewhere", "v")])

    def test_names_of_families_are_never_barred(self):
        book = names(("x one", "s"))
        book.publish((2, 1), ("one",), rank=1, like=(1, 1))
        book.publish((3, 1), ("one",), rank=1, like=(1, 1))
        book.strike((4, 1), (2, 1))
        self.assertEqual(self.why(book, F), [("struck", (4, 1)), ("taken", (2, 1))])

    def test_by_names(self):
        book = names(("x one", "s"))
        self.assertEqual(right(book=book, tree=self.tree, node=A, upto=None), (1, 1))
        self.assertIsNone(why_not(book=book, tree=self.tree, node=A, name=(1, 1), upto=(1, 1)))


class Refused(unittest.TestCase):
    def setUp(self):
        self.tree = Tree({A: ["s", "t"], B: ["u"]}, {A: F})
        self.book = names(("x one", "s"), ("x two", "t"))
        self.book.publish((3, 1), ("x",), rank=1, like=(1, 1))
        self.book.strike((4, 1), (1, 1))

    def test_no_node_goes_first(self):
        for node in [C, G, (1, "a"), (0, "f"), (2, "h"), None]:
            told = refusal(self, NoNode, why_not, self.book, self.tree, node, (9, 9))
            self.assertEqual(told.node, node)
            self.assertEqual(refusal(self, NoNode, right, self.book, self.tree, node).node, node)
        for thing in strange():
            self.assertIs(refusal(self, NoNode, right, self.book, self.tree, thing).node, thing)
            self.assertIs(refusal(self, NoNode, why_not, self.book, self.tree, thing, (3, 1)).node, thing)

    def test_then_no_name_then_unfit(self):
        for node, name in [(A, (9, 9)), (A, (4, 1)), (F, (9, 9))]:
            self.assertEqual(refusal(self, NoName, why_not, self.book, self.tree, node, name).moment, name)
        self.assertEqual(refusal(self, Unfit, why_not, self.book, self.tree, A, (3, 1)).moment, (3, 1))
        self.assertEqual(refusal(self, Unfit, why_not, self.book, self.tree, F, (1, 1)).moment, (1, 1))
        told = refusal(self, NoName, why_not, self.book, self.tree, A, (3, 1), upto=(3, 0))
        self.assertEqual(told.moment, (3, 1))
        told = refusal(self, NoName, why_not, self.book, self.tree, A, (2, 1), upto=(1, 9))
        self.assertEqual(told.moment, (2, 1))
        told = refusal(self, Unfit, why_not, self.book, self.tree, A, (3, 1), upto=(3, 1))
        self.assertEqual(told.moment, (3, 1))


class AgainstTheSlowWay(unittest.TestCase):
    def test_many_books(self):
        chance = random.Random(19)
        reasons = {}
        for _ in range(250):
            records = some_records(chance)
            book, tree = book_of(records), some_tree(chance)
            for upto in [None, (2, 4)]:
                for node in tree.nodes():
                    self.assertEqual(right(book, tree, node, upto=upto), slow_right(book, tree, node, upto))
                    for name in book.names(rank=node[0], upto=upto):
                        told = why_not(book, tree, node, name, upto=upto)
                        self.assertEqual(told, slow_why(book, tree, node, name, upto))
                        reasons[told and told[0]] = True
        self.assertEqual(len(reasons), 7)

    def test_right_just_where_one_is_fit_and_never_two_alike(self):
        chance = random.Random(4)
        for _ in range(150):
            book, tree = book_of(some_records(chance)), some_tree(chance)
            told = {}
            for node in tree.nodes():
                fit = [name for name in book.names(rank=node[0]) if slow_fit(book, tree, node, name, None)]
                best = right(book, tree, node)
                self.assertEqual(best is None, not fit)
                if best is not None:
                    # No two nodes of a rank have right names of the same words.
                    self.assertNotIn((node[0], book.words(best)), told)
                    told[(node[0], book.words(best))] = node


if __name__ == "__main__":
    unittest.main()
