import itertools
import random
import unittest

from kindnames.errors import NoNode
from kindnames.sides import lie
from kindnames.trees import Tree
from slow_right import some_tree
from things import refusal, strange

A, B, C, D = (0, "a"), (0, "b"), (0, "c"), (0, "d")
F, G, H = (1, "f"), (1, "g"), (2, "h")
TURNED = {"nothing": "nothing", "same": "same", "within": "round", "round": "within", "cross": "cross", "apart": "apart"}


class Lie(unittest.TestCase):
    def setUp(self):
        self.one = Tree({A: ["t", "s"], B: ["u", "v"], C: ["x"], D: ["w"]}, {A: F, B: F, C: F, F: H, D: G})
        self.two = Tree({B: ["s", "t", "y"], A: ["u"], C: ["v", "w"], D: ["z"]}, {A: G, B: G, D: F, C: H, G: H})

    def lie(self, node, other):
        told = lie(self.one, node, self.two, other)
        word, both, first, second = told
        self.assertEqual(lie(self.two, other, self.one, node), (TURNED[word], both, second, first))
        self.assertIs(type(told), tuple)
        return told

    def test_each_word(self):
        self.assertEqual(self.lie(A, B), ("same", "s", None, None))
        self.assertEqual(self.lie(B, A), ("round", "u", "v", None))
        self.assertEqual(self.lie(D, C), ("within", "w", None, "v"))
        self.assertEqual(self.lie(B, C), ("cross", "v", "u", "w"))
        self.assertEqual(self.lie(A, C), ("apart", None, "s", "v"))
        self.assertEqual(self.lie(C, B), ("nothing", None, None, "s"))
        self.assertEqual(self.lie(A, D), ("nothing", None, "s", None))
        self.assertEqual(self.lie(C, D), ("nothing", None, None, None))

    def test_nodes_of_all_ranks(self):
        self.assertEqual(self.lie(F, G), ("round", "s", "v", None))
        self.assertEqual(self.lie(F, H), ("within", "s", None, "w"))
        self.assertEqual(self.lie(H, H), ("within", "s", None, "w"))
        self.assertEqual(self.lie(G, C), ("within", "w", None, "v"))
        self.assertEqual(self.lie(A, H), ("within", "s", None, "u"))
        self.assertEqual(self.lie(F, F), ("nothing", None, "s", None))
        self.assertEqual(self.lie(G, G), ("apart", None, "w", "s"))

    def test_a_tree_with_itself(self):
        for node in self.one.nodes():
            first = self.one.sheets(node)[0]
            self.assertEqual(lie(self.one, node, self.one, node), ("same", first, None, None))
        self.assertEqual(lie(self.one, A, self.one, B), ("apart", None, "s", "u"))
        self.assertEqual(lie(self.one, A, self.one, F), ("within", "s", None, "u"))

    def test_no_node_of_the_first_first(self):
        for node, other, first in [((0, "z"), (0, "y"), (0, "z")), (A, (0, "y"), (0, "y")), ((0, "z"), A, (0, "z")),
                                   ((3, "x"), None, (3, "x")), (None, A, None), (A, None, None)]:
            self.assertEqual(refusal(self, NoNode, lie, self.one, node, self.two, other).node, first)
        # A node that only the other tree has.
        self.assertEqual(refusal(self, NoNode, lie, Tree({A: ["s"]}), B, Tree({B: ["s"]}), B).node, B)
        self.assertEqual(refusal(self, NoNode, lie, Tree({A: ["s"]}), A, Tree({B: ["s"]}), A).node, A)
        for thing in strange():
            self.assertIs(refusal(self, NoNode, lie, self.one, thing, self.two, (0, "z")).node, thing)
            self.assertIs(refusal(self, NoNode, lie, self.one, A, self.two, thing).node, thing)

    def test_by_names(self):
        self.assertEqual(lie(one=self.one, node=A, two=self.two, other=B), ("same", "s", None, None))

    def test_beside_the_slow_way(self):
        chance = random.Random(27)
        seen = {}
        for _ in range(120):
            one, two = some_tree(chance), some_tree(chance)
            one = Tree({node: one.sheets(node) for node in one.nodes(rank=0) if chance.random() < 0.8},
                       {node: one.parent(node) for node in one.nodes()})
            shared = set(one.sheets()) & set(two.sheets())
            for node, other in itertools.product(one.nodes(), two.nodes()):
                mine, theirs = set(one.sheets(node)) & shared, set(two.sheets(other)) & shared
                parts = [mine & theirs, mine - theirs, theirs - mine]
                told = lie(one, node, two, other)
                self.assertEqual(told[1:], tuple(min(part, default=None) for part in parts))
                words = {(True, False, False): "same", (True, False, True): "within", (True, True, False): "round",
                         (True, True, True): "cross", (False, True, True): "apart"}
                word = words[tuple(map(bool, parts))] if mine and theirs else "nothing"
                self.assertEqual(told[0], word)
                seen[word] = True
        self.assertEqual(len(seen), 6)


if __name__ == "__main__":
    unittest.main()
