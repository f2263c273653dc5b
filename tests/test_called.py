import random
import unittest

from kindnames.book import Book
from kindnames.called import called, kind_called
from kindnames.errors import NoNode
from kindnames.trees import Tree
from slow_right import names, some_records, some_tree
from slow_wanted import slow_called
from things import book_of, refusal, shuffled_book, strange

A, B, C, D = (0, "a"), (0, "b"), (0, "c"), (0, "d")
F, G, H = (1, "f"), (1, "g"), (2, "h")


def some_book():
    """rosa for what has s, salix for what has v; kinds named one by one behind it."""
    book = names(("rosa alba", "s"), ("salix nigra", "v"), ("rubus idaeus", "u"))
    book.publish((4, 1), ("rosa",), rank=1, like=(1, 1))
    book.publish((5, 1), ("salix",), rank=1, like=(2, 1))
    book.publish((6, 1), ("rosalia",), rank=2, like=(4, 1))
    return book


class Called(unittest.TestCase):
    def setUp(self):
        self.book = some_book()
        self.tree = Tree({A: ["s", "t"], B: ["u"], C: ["v"], D: ["w"]}, {A: F, B: F, F: H, C: H, D: F})

    def test_in_a_family_with_a_right_name(self):
        self.assertEqual(called(self.book, self.tree, A), ("rosa", "alba"))
        # The family's word is that of the family's right name, not the first of its own name.
        self.assertEqual(called(self.book, self.tree, B), ("rosa", "idaeus"))
        self.assertEqual(kind_called(self.book, self.tree, ("rosa", "idaeus")), B)
        self.assertIsNone(kind_called(self.book, self.tree, ("rubus", "idaeus")))

    def test_without_a_right_name(self):
        self.assertIsNone(called(self.book, self.tree, D))
        self.book.strike((9, 1), (1, 1))
        self.assertIsNone(called(self.book, self.tree, A))
        self.assertEqual(called(self.book, self.tree, B), ("rosa", "idaeus"))
        self.assertEqual(called(self.book, self.tree, A, upto=(9, 0)), ("rosa", "alba"))

    def test_in_a_group_alone_or_in_nothing(self):
        self.assertIsNone(called(self.book, self.tree, C))
        tree = Tree({C: ["v"], A: ["s"]}, {A: H})
        self.assertIsNone(called(self.book, tree, C))
        self.assertIsNone(called(self.book, tree, A))
        self.assertIsNone(kind_called(self.book, tree, ("salix", "nigra")))

    def test_in_a_family_without_a_right_name(self):
        tree = Tree({A: ["s", "t"], B: ["u"]}, {A: G, B: F})
        self.assertIsNone(called(self.book, tree, B))
        self.assertEqual(called(self.book, tree, A), ("rosa", "alba"))
        self.book.strike((9, 1), (4, 1))
        self.assertIsNone(called(self.book, tree, A))
        self.assertIsNone(called(self.book, tree, G))

    def test_nodes_of_other_ranks(self):
        self.assertEqual(called(self.book, self.tree, F), ("rosa",))
        self.assertEqual(called(self.book, self.tree, H), ("rosalia",))
        self.assertIsNone(called(self.book, self.tree, F, upto=(3, 9)))
        self.assertIsNone(called(Book(), self.tree, H))

    def test_uptos(self):
        self.assertIsNone(called(self.book, self.tree, A, upto=(4, 0)))
        self.assertEqual(called(self.book, self.tree, A, upto=(4, 1)), ("rosa", "alba"))
        self.assertIsNone(kind_called(self.book, self.tree, ("rosa", "alba"), upto=(4, 0)))
        self.assertEqual(kind_called(self.book, self.tree, ("rosa", "alba"), upto=(4, 1)), A)

    def test_words_that_no_kind_has(self):
        for words in [("rosa", "rosa"), ("alba", "rosa"), ("Rosa", "alba"), ("", ""), ("a b", "\n"), ("salix", "nigra"), ("rosa", "")]:
            self.assertIsNone(kind_called(self.book, self.tree, words))

    def test_words_of_two_kinds_that_are_turned_about(self):
        book = names(("one two", "s"), ("two one", "v"))
        book.publish((3, 1), ("one",), rank=1, like=(1, 1))
        book.publish((4, 1), ("two",), rank=1, like=(2, 1))
        tree = Tree({A: ["s"], C: ["v"]}, {A: F, C: G})
        self.assertEqual(kind_called(book, tree, ("one", "two")), A)
        self.assertEqual(kind_called(book, tree, ("two", "one")), C)
        turned = Tree({A: ["v"], C: ["s"]}, {A: F, C: G})
        self.assertEqual(kind_called(book, turned, ("one", "two")), C)
        self.assertEqual(kind_called(book, turned, ("two", "one")), A)

    def test_no_node(self):
        for node in [(0, "z"), G, (1, "a"), (0, "f"), None]:
            self.assertEqual(refusal(self, NoNode, called, self.book, self.tree, node).node, node)
        for thing in strange():
            self.assertIs(refusal(self, NoNode, called, self.book, self.tree, thing).node, thing)

    def test_by_names(self):
        self.assertEqual(called(book=self.book, tree=self.tree, node=A, upto=(4, 1)), ("rosa", "alba"))
        self.assertEqual(kind_called(book=self.book, tree=self.tree, words=("rosa", "alba"), upto=None), A)


class AgainstTheSlowWay(unittest.TestCase):
    def test_many_books(self):
        chance = random.Random(210)
        seen = 0
        for _ in range(200):
            records = some_records(chance)
            book, tree = shuffled_book(chance, records), some_tree(chance)
            for upto in [None, (2, 4)]:
                told = {}
                for node in tree.nodes():
                    words = called(book, tree, node, upto=upto)
                    self.assertEqual(words, slow_called(book_of(records), tree, node, upto))
                    if words is not None and node[0] == 0:
                        # Unlike kinds are never called alike, and who is called leads back to the kind.
                        self.assertNotIn(words, told)
                        told[words] = node
                for one in "xyz":
                    for two in "mno":
                        self.assertEqual(kind_called(book, tree, (one, two), upto=upto), told.get((one, two)))
                seen += len(told)
        self.assertGreater(seen, 50)


if __name__ == "__main__":
    unittest.main()
