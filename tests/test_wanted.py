import itertools
import random
import unittest

from kindnames.errors import NoName, NoNode, Unfit
from kindnames.right import right
from kindnames.trees import Tree
from kindnames.wanted import wanted
from slow_right import names, some_records, some_tree
from slow_wanted import slow_wanted, some_choosy_records, struck_book
from things import book_of, refusal, shuffled_book, strange

A, B, C = (0, "a"), (0, "b"), (0, "c")
F, H = (1, "f"), (2, "h")


class Wanted(unittest.TestCase):
    def setUp(self):
        self.tree = Tree({A: ["s", "t"], B: ["u"], C: ["v"]}, {A: F, B: F, F: H})

    def told(self, book, name, node=A, upto=None):
        """The told rows, held beside the book itself."""
        paper = wanted(book, self.tree, node, name, upto=upto)
        if paper[0] == "strikes":
            self.holds(book, node, name, paper[1], upto)
        return paper

    def holds(self, book, node, name, rows, upto):
        whole = [row[0] for row in rows if row[1] in ("takes", "bars")]
        plain = [row[0] for row in rows if row[1] in ("ahead", "elder")]
        self.assertEqual(len(whole + plain), len(rows))
        self.assertEqual(len(set(whole + plain)), len(rows))
        self.assertEqual(right(struck_book(book, whole, plain, upto), self.tree, node), name)
        for out in whole + plain:
            left = struck_book(book, [each for each in whole if each != out], [each for each in plain if each != out], upto)
            self.assertNotEqual(right(left, self.tree, node), name)

    def test_never(self):
        book = names(("x one", ["v", "u", "s"]), ("x two", "s"))
        book.strike((8, 2), (1, 1), whole=True)
        book.strike((8, 1), (1, 1))
        book.strike((9, 1), (2, 1))
        # Of both the first: elsewhere.
        self.assertEqual(self.told(book, (1, 1)), ("never", "elsewhere", "u"))
        self.assertEqual(self.told(book, (2, 1)), ("never", "struck", (9, 1)))
        self.assertEqual(self.told(book, (2, 1), upto=(9, 0)), ("strikes", []))
        book.choose((3, 1), (1, 1), "s")
        self.assertEqual(self.told(book, (1, 1)), ("never", "struck", (8, 1)))

    def test_right_already(self):
        book = names(("x one", "u"), ("x two", "s"), ("x three", "s"))
        self.assertEqual(self.told(book, (2, 1)), ("strikes", []))
        book.ahead((5, 1), (3, 1), (2, 1))
        self.assertEqual(self.told(book, (3, 1)), ("strikes", []))

    def test_elder(self):
        book = names(("x one", "s"), ("x two", "t"), ("x three", "s"), ("x four", "s"))
        self.assertEqual(self.told(book, (3, 1)), ("strikes", [((1, 1), "elder"), ((2, 1), "elder")]))
        self.assertEqual(self.told(book, (2, 1), upto=(2, 1)), ("strikes", [((1, 1), "elder")]))

    def test_takes_ahead_of_bars_each_once(self):
        book = names(("x one", "u"), ("x one", "s"), ("y one", "s"), ("y one", "v"), ("x one", "s"))
        self.assertEqual(self.told(book, (5, 1)), ("strikes", [((1, 1), "takes"), ((2, 1), "takes"), ((3, 1), "bars")]))
        # (4, 1) isn't in the family, and is only one of the same own word.
        self.assertEqual(self.told(book, (4, 1)), ("never", "elsewhere", "v"))
        self.assertEqual(self.told(book, (3, 1)), ("strikes", [((1, 1), "bars"), ((2, 1), "bars")]))

    def test_takes_from_elsewhere(self):
        book = names(("x one", "v"), ("x one", "s"))
        self.assertEqual(self.told(book, (2, 1)), ("strikes", [((1, 1), "takes")]))
        book.strike((5, 1), (1, 1))
        self.assertEqual(self.told(book, (2, 1)), ("strikes", [((1, 1), "takes")]))
        book.strike((5, 2), (1, 1), whole=True)
        self.assertEqual(self.told(book, (2, 1)), ("strikes", []))

    def test_ahead_and_elder_with_the_whole_strikes_done(self):
        # (2, 1) is fit only once (1, 1) is wholly struck, and is the elder one then.
        book = names(("x one", "u"), ("y one", "s"), ("x one", "s"))
        self.assertEqual(self.told(book, (3, 1)), ("strikes", [((1, 1), "takes"), ((2, 1), "bars")]))
        book = names(("x one", "u"), ("x one", "s"), ("y two", "s"), ("x two", "t"), ("x one", "t"))
        self.assertEqual(self.told(book, (4, 1)), ("strikes", [((3, 1), "bars")]))
        self.assertEqual(self.told(book, (5, 1)), ("strikes", [((1, 1), "takes"), ((2, 1), "takes"), ((3, 1), "elder")]))
        # (3, 1) is taken and barred by just the names that must be struck, and is then set ahead, and fit.
        book = names(("x one", "s"), ("x two", "s"), ("y one", "s"), ("x one", "s"))
        book.ahead((6, 1), (3, 1), (4, 1))
        self.assertEqual(self.told(book, (4, 1)), ("strikes", [((1, 1), "takes"), ((2, 1), "elder"), ((3, 1), "bars")]))
        book = names(("z one", "u"), ("x one", "s"), ("z one", "s"), ("z three", "s"))
        book.ahead((6, 1), (4, 1), (3, 1))
        self.assertEqual(self.told(book, (3, 1)), ("strikes", [((1, 1), "takes"), ((2, 1), "bars"), ((4, 1), "ahead")]))

    def test_a_name_freed_by_a_whole_strike_stands_in_the_way(self):
        tree = Tree({A: ["s", "t"], B: ["u"]}, {A: F, B: F})
        book = names(("x one", "u"), ("y one", "s"), ("x two", "s"), ("z one", "s"))
        self.assertEqual(wanted(book, tree, A, (3, 1)), ("strikes", []))
        # Of (4, 1) both others of its own word bar it; (3, 1) is elder and fit.
        self.assertEqual(wanted(book, tree, A, (4, 1)),
                         ("strikes", [((1, 1), "bars"), ((2, 1), "bars"), ((3, 1), "elder")]))

    def test_no_other_whole_strikes_are_told(self):
        # With (1, 1) wholly struck (5, 1) would be fit, and both elder ones would give way to it.
        book = names(("x one", "v"), ("x two", "s"), ("x three", "s"), ("x four", "s"), ("x one", "s"))
        book.ahead((6, 1), (5, 1), (2, 1))
        book.ahead((6, 2), (5, 1), (3, 1))
        self.assertEqual(self.told(book, (4, 1)), ("strikes", [((2, 1), "elder"), ((3, 1), "elder")]))
        book.strike((7, 1), (1, 1), whole=True)
        self.assertEqual(self.told(book, (4, 1)), ("strikes", []))

    def test_ahead(self):
        book = names(("x one", "s"), ("x two", "t"), ("x three", "s"), ("x four", "u"))
        book.ahead((5, 1), (2, 1), (1, 1))
        book.ahead((5, 2), (3, 1), (1, 1))
        book.ahead((5, 3), (3, 1), (1, 1))
        book.ahead((5, 4), (4, 1), (1, 1))
        # Set ahead twice, told once; elsewhere, not told.
        self.assertEqual(self.told(book, (1, 1)), ("strikes", [((2, 1), "ahead"), ((3, 1), "ahead")]))
        self.assertEqual(self.told(book, (1, 1), upto=(5, 1)), ("strikes", [((2, 1), "ahead")]))
        self.assertEqual(self.told(book, (1, 1), upto=(4, 9)), ("strikes", []))

    def test_elder_ones_that_give_way_by_rows_of_aheads(self):
        book = names(*[(f"x {word}", "s") for word in ["one", "two", "three", "four", "five"]])
        book.ahead((6, 1), (2, 1), (1, 1))
        book.ahead((6, 2), (3, 1), (2, 1))
        self.assertEqual(self.told(book, (4, 1)), ("strikes", [((1, 1), "elder"), ((2, 1), "elder"), ((3, 1), "elder")]))
        # By rows through several names to the wanted one.
        book.ahead((6, 3), (4, 1), (3, 1))
        self.assertEqual(self.told(book, (4, 1)), ("strikes", []))
        # And to a younger one, which itself stays.
        book.drop((6, 3))
        book.ahead((6, 3), (5, 1), (3, 1))
        self.assertEqual(self.told(book, (4, 1)), ("strikes", []))
        # But not through one that is itself to be struck, being set ahead.
        book.ahead((6, 4), (3, 1), (4, 1))
        self.assertEqual(self.told(book, (4, 1)),
                         ("strikes", [((1, 1), "elder"), ((2, 1), "elder"), ((3, 1), "ahead")]))

    def test_a_younger_one_to_be_struck_saves_no_elder_one(self):
        book = names(("x one", "s"), ("x two", "s"), ("x three", "s"))
        book.ahead((6, 1), (3, 1), (1, 1))
        self.assertEqual(self.told(book, (2, 1)), ("strikes", []))
        book.ahead((6, 2), (3, 1), (2, 1))
        self.assertEqual(self.told(book, (2, 1)), ("strikes", [((1, 1), "elder"), ((3, 1), "ahead")]))

    def test_a_row_through_one_that_is_not_fit_leads_nowhere(self):
        book = names(("x one", "s"), ("x two", "u"), ("x three", "s"))
        book.ahead((6, 1), (2, 1), (1, 1))
        book.ahead((6, 2), (3, 1), (2, 1))
        self.assertEqual(self.told(book, (3, 1)), ("strikes", [((1, 1), "elder")]))

    def test_a_ring_that_is_not_closed_and_aheads_that_do_nothing(self):
        book = names(("x one", "s"), ("x two", "s"), ("x three", "s"))
        book.ahead((6, 1), (2, 1), (1, 1))
        book.ahead((6, 2), (3, 1), (2, 1))
        book.ahead((6, 3), (1, 1), (3, 1))
        self.assertEqual(self.told(book, (3, 1)), ("strikes", []))
        self.assertEqual(self.told(book, (1, 1)), ("strikes", [((2, 1), "ahead")]))
        self.assertEqual(self.told(book, (2, 1)), ("strikes", [((3, 1), "ahead")]))
        book.drop((6, 1))
        self.assertEqual(self.told(book, (3, 1)), ("strikes", [((1, 1), "ahead")]))
        self.assertEqual(self.told(book, (2, 1)), ("strikes", [((1, 1), "elder"), ((3, 1), "ahead")]))

    def test_ranks_above_kinds(self):
        book = names(("x one", "s"), ("y one", "u"), ("z one", "v"))
        book.publish((4, 1), ("x",), rank=1, like=(3, 1))
        book.publish((5, 1), ("y",), rank=1, like=(2, 1))
        book.publish((6, 1), ("x",), rank=1, like=(1, 1))
        book.publish((7, 1), ("z",), rank=1, like=(1, 1))
        self.assertEqual(self.told(book, (6, 1), F), ("strikes", [((4, 1), "takes"), ((5, 1), "elder")]))
        self.assertEqual(self.told(book, (4, 1), F), ("never", "elsewhere", "v"))
        book.ahead((8, 1), (7, 1), (5, 1))
        book.ahead((8, 2), (7, 1), (6, 1))
        self.assertEqual(self.told(book, (6, 1), F), ("strikes", [((4, 1), "takes"), ((5, 1), "elder"), ((7, 1), "ahead")]))
        book.publish((9, 1), ("g",), rank=2, like=(5, 1))
        book.publish((9, 2), ("h",), rank=2, like=(5, 1))
        self.assertEqual(self.told(book, (9, 2), H), ("strikes", [((9, 1), "elder")]))

    def test_kinds_in_no_family_are_not_barred(self):
        book = names(("x one", "u"), ("y one", "s"))
        self.assertEqual(self.told(book, (2, 1)), ("strikes", [((1, 1), "bars")]))
        self.tree = Tree({A: ["s", "t"], B: ["u"]}, {A: H, B: H})
        self.assertEqual(self.told(book, (2, 1)), ("strikes", []))

    def test_bars_within_the_kind_and_the_family(self):
        book = names(("x one", "s"), ("y one", ["s", "u"]), ("z one", ["u", "v"]), ("w one", "t"))
        self.assertEqual(self.told(book, (4, 1)), ("strikes", [((1, 1), "bars"), ((2, 1), "bars")]))

    def test_refused_in_order(self):
        book = names(("x one", "s"))
        book.publish((2, 1), ("x",), rank=1, like=(1, 1))
        for node in [(0, "z"), (1, "a"), None]:
            self.assertEqual(refusal(self, NoNode, wanted, book, self.tree, node, (9, 9)).node, node)
        for thing in strange():
            self.assertIs(refusal(self, NoNode, wanted, book, self.tree, thing, (2, 1)).node, thing)
        self.assertEqual(refusal(self, NoName, wanted, book, self.tree, A, (9, 9)).moment, (9, 9))
        self.assertEqual(refusal(self, NoName, wanted, book, self.tree, A, (2, 1), upto=(1, 1)).moment, (2, 1))
        self.assertEqual(refusal(self, Unfit, wanted, book, self.tree, A, (2, 1)).moment, (2, 1))
        self.assertEqual(refusal(self, Unfit, wanted, book, self.tree, F, (1, 1)).moment, (1, 1))

    def test_told_rows_may_be_changed_and_by_names(self):
        book = names(("x one", "s"), ("x two", "s"))
        paper = wanted(book=book, tree=self.tree, node=A, name=(2, 1), upto=None)
        paper[1].clear()
        self.assertEqual(self.told(book, (2, 1)), ("strikes", [((1, 1), "elder")]))
        self.assertIs(type(paper), tuple)
        self.assertEqual(len(book), 2)


class AgainstTheSlowWay(unittest.TestCase):
    def test_many_books(self):
        chance = random.Random(22)
        whys = {}
        for turn, upto in itertools.product(range(70), [None, (2, 4)]):
            records = some_records(chance) if turn % 2 else some_choosy_records(chance)
            book, tree = shuffled_book(chance, records), some_tree(chance)
            for node in tree.nodes():
                for name in book.names(rank=node[0], upto=upto):
                    paper = wanted(book, tree, node, name, upto=upto)
                    self.assertEqual(paper, slow_wanted(book_of(records), tree, node, name, upto))
                    rows = paper[1] if paper[0] == "strikes" else []
                    for why in [paper[1]] if paper[0] == "never" else [row[1] for row in rows]:
                        whys[why] = True
                    if right(book, tree, node, upto=upto) == name:
                        self.assertEqual(paper, ("strikes", []))
        self.assertEqual(sorted(whys), ["ahead", "bars", "elder", "elsewhere", "struck", "takes"])


if __name__ == "__main__":
    unittest.main()
