import random
import unittest

from kindnames.minds import Minds
from kindnames.trees import Tree
from kindnames.uses import leads, led, meant, senses
from slow_lines import some_page
from slow_right import names, slow_right, some_records, some_tree
from slow_wanted import slow_called
from things import book_of, shuffled_book

A, B, C, D = (0, "a"), (0, "b"), (0, "c"), (0, "d")
F, G = (1, "f"), (1, "g")


def some_book():
    book = names(("rosa alba", "s"), ("salix nigra", ["v", "u"]), ("rosa nova", "t"), ("salix nigra", "x"))
    book.publish((5, 1), ("rosa",), rank=1, like=(1, 1))
    return book


def some_minds():
    minds = Minds()
    minds.tell((1, 1), "ann", [("put", ["w", "s"], A), ("put", ["t"], B), ("move", A, F), ("move", B, F)])
    minds.tell((6, 1), "ann", [("put", ["z", "y"], A)])
    minds.tell((8, 1), "bob", [("take", "ann"), ("join", A, B)])
    return minds


class Meant(unittest.TestCase):
    def setUp(self):
        self.book, self.minds = some_book(), some_minds()

    def means(self, words, mind="ann", upto=None):
        return meant(self.book, self.minds, words, mind, upto=upto)

    def test_a_kind_with_its_sheets_by_letters(self):
        self.assertEqual(self.means(("rosa", "alba")), ("kind", A, ["s", "w", "y", "z"]))
        self.assertEqual(self.means(("rosa", "nova")), ("kind", B, ["t"]))
        self.assertEqual(self.means(("rosa", "alba"), "bob"), ("kind", A, ["s", "t", "w", "y", "z"]))
        self.assertEqual(self.means(("rosa", "nova"), "bob"), ("names", [(3, 1)]))

    def test_names_that_no_kind_is_called_by(self):
        self.assertEqual(self.means(("salix", "nigra")), ("names", [(2, 1), (4, 1)]))
        self.assertEqual(self.means(("salix", "nigra"), upto=(4, 0)), ("names", [(2, 1)]))
        self.book.strike((7, 1), (2, 1), whole=True)
        self.assertEqual(self.means(("salix", "nigra")), ("names", [(2, 1), (4, 1)]))

    def test_words_of_none(self):
        for words in [("salix", "alba"), ("nigra", "salix"), ("alba", "rosa"), ("rosa", "rosa")]:
            self.assertEqual(self.means(words), ("unknown",))

    def test_words_of_names_of_other_ranks_are_none(self):
        self.book.publish((7, 1), ("alba",), rank=1, like=(1, 1))
        self.assertEqual(self.means(("alba", "alba")), ("unknown",))

    def test_uptos_of_book_and_tree_alike(self):
        self.assertEqual(self.means(("rosa", "alba"), upto=(5, 1)), ("kind", A, ["s", "w"]))
        self.assertEqual(self.means(("rosa", "alba"), upto=(5, 0)), ("names", [(1, 1)]))
        self.assertEqual(self.means(("rosa", "alba"), upto=(0, 9)), ("unknown",))
        self.assertEqual(self.means(("rosa", "alba"), "bob", upto=(7, 9)), ("names", [(1, 1)]))

    def test_a_mind_without_pages(self):
        self.assertEqual(self.means(("rosa", "alba"), "nobody"), ("names", [(1, 1)]))
        self.assertEqual(self.means(("alba", "rosa"), "nobody"), ("unknown",))
        self.assertEqual(meant(self.book, Minds(), ("rosa", "alba"), "ann"), ("names", [(1, 1)]))

    def test_told_lists_may_be_changed_and_by_names(self):
        told = meant(book=self.book, minds=self.minds, words=("rosa", "alba"), mind="ann", upto=None)
        told[2].clear()
        self.means(("salix", "nigra"))[1].clear()
        self.assertEqual(self.means(("rosa", "alba")), ("kind", A, ["s", "w", "y", "z"]))
        self.assertEqual(self.means(("salix", "nigra")), ("names", [(2, 1), (4, 1)]))


TREE = Tree({D: ["t", "s"], C: ["w", "y", "q"], A: ["u"]})


class Led(unittest.TestCase):
    def test_sheets_in_one_kind_in_several_in_none(self):
        self.assertEqual(led(["t", "s"], TREE), ([(D, 2, "s")], []))
        self.assertEqual(led(["y", "t", "w", "u"], TREE), ([(A, 1, "u"), (C, 2, "w"), (D, 1, "t")], []))
        self.assertEqual(led(["z", "b"], TREE), ([], ["b", "z"]))
        self.assertEqual(led(["z", "s", "b", "q", "y"], TREE), ([(C, 2, "q"), (D, 1, "s")], ["b", "z"]))
        self.assertEqual(led([], TREE), ([], []))
        self.assertEqual(led(["s"], Tree()), ([], ["s"]))

    def test_lists_and_tuples_stay_as_they_are(self):
        sheets = ["z", "s", "b"]
        self.assertEqual(led(sheets, TREE), led(tuple(sheets), TREE))
        self.assertEqual(sheets, ["z", "s", "b"])
        told = led(sheets=sheets, tree=TREE)
        told[0].clear()
        told[1].clear()
        self.assertEqual(led((), tree=TREE), ([], []))
        self.assertEqual(led(sheets, TREE), ([(D, 1, "s")], ["b", "z"]))
        self.assertEqual([type(each) for each in (told, *told)], [tuple, list, list])


class Leads(unittest.TestCase):
    def setUp(self):
        self.book, self.minds = some_book(), some_minds()

    def leads(self, words, tree=TREE, mind="ann", upto=None):
        return leads(self.book, self.minds, words, mind, tree, upto=upto)

    def test_to_one_kind(self):
        self.assertEqual(self.leads(("rosa", "nova")), ("one", [(D, 1, "t")], []))
        self.assertEqual(self.leads(("rosa", "alba"), Tree({B: list("zyxws")})), ("one", [(B, 4, "s")], []))

    def test_to_one_kind_with_a_sheet_nowhere(self):
        self.assertEqual(self.leads(("rosa", "alba"), Tree({B: list("zyw")})), ("some", [(B, 3, "w")], ["s"]))

    def test_to_several(self):
        self.assertEqual(self.leads(("rosa", "alba"), upto=(5, 9)), ("some", [(C, 1, "w"), (D, 1, "s")], []))
        self.assertEqual(self.leads(("rosa", "alba")), ("some", [(C, 2, "w"), (D, 1, "s")], ["z"]))

    def test_gone(self):
        self.assertEqual(self.leads(("rosa", "alba"), Tree()), ("gone", [], ["s", "w", "y", "z"]))
        self.assertEqual(self.leads(("rosa", "nova"), Tree({A: ["s"]})), ("gone", [], ["t"]))

    def test_names_by_their_bearers(self):
        self.assertEqual(self.leads(("salix", "nigra")), ("names", [((2, 1), [(A, 1, "u")], ["v"]), ((4, 1), [], ["x"])]))
        self.book.choose((9, 1), (2, 1), "v")
        self.assertEqual(self.leads(("salix", "nigra")), ("names", [((2, 1), [], ["v"]), ((4, 1), [], ["x"])]))
        # Of the bearers up to the pair of the use, not of those chosen behind it.
        self.assertEqual(self.leads(("salix", "nigra"), upto=(3, 0)), ("names", [((2, 1), [(A, 1, "u")], ["v"])]))

    def test_unknown(self):
        self.assertEqual(self.leads(("nova", "rosa")), ("unknown",))
        self.assertEqual(self.leads(("rosa", "alba"), upto=(0, 1)), ("unknown",))

    def test_what_is_told_behind_the_pair_of_the_use(self):
        before = self.leads(("rosa", "alba"), upto=(5, 1))
        self.minds.tell((9, 1), "ann", [("out", ["s"])])
        self.book.strike((9, 1), (1, 1))
        self.assertEqual(self.leads(("rosa", "alba"), upto=(5, 1)), before)
        self.assertEqual(self.leads(("rosa", "alba")), ("names", [((1, 1), [(D, 1, "s")], [])]))
        # What is told late, ahead of the pair, is there for the use.
        self.minds.tell((4, 1), "ann", [("out", ["w"])])
        self.assertEqual(self.leads(("rosa", "alba"), upto=(5, 1)), ("one", [(D, 1, "s")], []))
        self.minds.drop((4, 1))
        self.assertEqual(self.leads(("rosa", "alba"), upto=(5, 1)), before)

    def test_told_lists_may_be_changed_and_by_names(self):
        told = leads(book=self.book, minds=self.minds, words=("rosa", "nova"), mind="ann", tree=TREE, upto=None)
        told[1].clear()
        self.assertEqual(self.leads(("rosa", "nova")), ("one", [(D, 1, "t")], []))


class Senses(unittest.TestCase):
    def setUp(self):
        self.book = names(("rosa alba", "s"), ("rosa nova", ["v", "u"]), ("salix alba", "t"), ("rosa alta", "w"))
        self.book.publish((5, 1), ("rosa",), rank=1, like=(1, 1))
        self.one = Tree({A: ["s"], B: ["u", "v"], C: ["w"]}, {A: F, B: F, C: F})

    def test_the_same_right_name(self):
        two = Tree({D: ["s"], A: ["v", "u", "x"]}, {D: G, A: G})
        rows = [(("rosa", "alba"), "one", (1, 1), "s"), (("rosa", "nova"), "one", (2, 1), "u")]
        self.assertEqual(senses(self.book, self.one, two), rows)
        self.assertEqual(senses(self.book, two, self.one), rows)

    def test_unlike_right_names(self):
        # Each family has what bears its name, and an own word of unlike names.
        self.book.strike((6, 1), (5, 1), whole=True)
        self.book.publish((7, 1), ("rosa",), rank=1, like=(4, 1))
        one = Tree({A: ["s"], B: ["w"]}, {A: F, B: F})
        two = Tree({D: ["w"], B: ["t"]}, {D: G, B: G})
        alta = (("rosa", "alta"), "one", (4, 1), "w")
        self.assertEqual(senses(self.book, one, two), [(("rosa", "alba"), "two", (1, 1), (3, 1)), alta])
        self.assertEqual(senses(self.book, two, one), [(("rosa", "alba"), "two", (3, 1), (1, 1)), alta])
        self.assertEqual(senses(self.book, one, two, upto=(6, 9)), [])

    def test_words_of_one_tree_alone_and_a_tree_of_nothing(self):
        self.assertEqual(senses(self.book, self.one, Tree()), [])
        self.assertEqual(senses(self.book, Tree(), self.one), [])
        two = Tree({D: ["s"]}, {D: G})
        self.assertEqual(senses(self.book, self.one, two), [(("rosa", "alba"), "one", (1, 1), "s")])
        self.assertEqual(len(senses(self.book, self.one, self.one)), 3)

    def test_uptos_and_by_names(self):
        two = Tree({A: ["v", "u"], D: ["s"]}, {D: G, A: G})
        self.assertEqual(senses(self.book, self.one, two, upto=(4, 9)), [])
        self.assertEqual(len(senses(book=self.book, one=self.one, two=two, upto=(5, 1))), 2)
        self.book.choose((9, 1), (2, 1), "v")
        self.assertEqual(senses(self.book, self.one, two)[1], (("rosa", "nova"), "one", (2, 1), "v"))
        self.assertEqual(senses(self.book, self.one, two, upto=(9, 0))[1], (("rosa", "nova"), "one", (2, 1), "u"))
        senses(self.book, self.one, two).clear()
        self.assertEqual(len(senses(self.book, self.one, two)), 2)


def slow_led(sheets, tree):
    rows = [(kind, sorted(set(sheets) & set(tree.sheets(kind)))) for kind in tree.nodes(rank=0)]
    nowhere = sorted(sheet for sheet in sheets if tree.kind_of(sheet) is None)
    return [(kind, len(some), some[0]) for kind, some in rows if some], nowhere


def slow_meant(book, minds, words, mind, upto):
    tree = minds.tree(mind, upto=upto)
    for node in tree.nodes(rank=0):
        if slow_called(book, tree, node, upto) == words:
            return ("kind", node, sorted(tree.sheets(node)))
    there = [name for name in book.names(rank=0, upto=upto) if book.words(name) == words]
    return ("names", there) if there else ("unknown",)


def slow_leads(book, told, tree, upto):
    if told[0] == "unknown":
        return told
    if told[0] == "names":
        return ("names", [(name, *slow_led(book.bearers(name, upto=upto), tree)) for name in told[1]])
    rows, nowhere = slow_led(told[2], tree)
    word = "some" if rows else "gone"
    return ("one" if len(rows) == 1 and not nowhere else word, rows, nowhere)


class AgainstTheSlowWay(unittest.TestCase):
    def some_minds(self, chance):
        pages = [((2, 9), "ann", [("put", [sheet for sheet in some_tree(chance).sheets()], A), ("move", A, F)])]
        for day in range(3):
            tree = some_tree(chance)
            puts = [("put", tree.sheets(kind), kind) for kind in tree.nodes(rank=0)]
            moves = [("move", kind, tree.parent(kind)) for kind in tree.nodes(rank=0)]
            pages.append(((day, 1), chance.choice(["ann", "bob"]), puts + moves))
        pages.append(((2, 6), "bob", some_page(chance)))
        chance.shuffle(pages)
        minds = Minds()
        for page in pages:
            minds.tell(*page)
            if chance.random() < 0.3:
                minds.tell((0, 9), "ann", [("take", "cid")])
                minds.drop((0, 9))
        return minds

    def test_many_uses(self):
        chance = random.Random(24)
        seen = {}
        for _ in range(120):
            records = some_records(chance)
            book, minds, tree = shuffled_book(chance, records), self.some_minds(chance), some_tree(chance)
            tree = Tree({node: tree.sheets(node)[:2] for node in tree.nodes(rank=0) if chance.random() < 0.7})
            for upto in [None, (2, 4)]:
                for mind in ["ann", "bob"]:
                    for words in [(one, two) for one in "xy" for two in "mn"]:
                        told = meant(book, minds, words, mind, upto=upto)
                        self.assertEqual(told, slow_meant(book_of(records), minds, words, mind, upto))
                        use = leads(book, minds, words, mind, tree, upto=upto)
                        self.assertEqual(use, slow_leads(book, told, tree, upto))
                        seen[told[0]] = True
                        seen[use[0]] = True
        self.assertEqual(sorted(seen), ["gone", "kind", "names", "one", "some", "unknown"])

    def test_many_senses(self):
        chance = random.Random(26)
        seen = {}
        for _ in range(300):
            records = some_records(chance)
            book, one, two = book_of(records), some_tree(chance), some_tree(chance)
            rows = []
            for first in one.nodes(rank=0):
                for second in two.nodes(rank=0):
                    words = slow_called(book, one, first)
                    if words is not None and words == slow_called(book, two, second):
                        name, other = slow_right(book, one, first, None), slow_right(book, two, second, None)
                        alike = ("one", name, min(book.bearers(name)))
                        rows.append((words, *(alike if name == other else ("two", name, other))))
                        seen[rows[-1][1]] = True
            self.assertEqual(senses(book, one, two), sorted(rows))
        self.assertEqual(sorted(seen), ["one", "two"])


if __name__ == "__main__":
    unittest.main()
