import unittest

from kindnames.errors import BadTree, NoNode
from kindnames.trees import Tree
from kindnames.words import is_node
from things import refusal, strange

A, B, C, D = (0, "a"), (0, "b"), (0, "c"), (0, "d")
F, G = (1, "f"), (1, "g")
H, I = (2, "h"), (4, "i")


def some_tree():
    """a (s, t) and b (u) in f, f in h, h in i; c (v) in h straight; d (w) in nothing."""
    return Tree({A: ["t", "s"], B: ["u"], C: ("v",), D: ["w"]}, {A: F, B: F, F: H, C: H, H: I})


class Asks(unittest.TestCase):
    def setUp(self):
        self.tree = some_tree()

    def test_nodes(self):
        self.assertEqual(self.tree.nodes(), [A, B, C, D, F, H, I])
        self.assertEqual(self.tree.nodes(rank=0), [A, B, C, D])
        self.assertEqual(self.tree.nodes(rank=1), [F])
        self.assertEqual(self.tree.nodes(rank=3), [])
        self.assertEqual(self.tree.nodes(rank=4), [I])

    def test_sheets(self):
        self.assertEqual(self.tree.sheets(), ["s", "t", "u", "v", "w"])
        self.assertEqual(self.tree.sheets(None), ["s", "t", "u", "v", "w"])
        self.assertEqual(self.tree.sheets(A), ["s", "t"])
        self.assertEqual(self.tree.sheets(F), ["s", "t", "u"])
        self.assertEqual(self.tree.sheets(H), ["s", "t", "u", "v"])
        self.assertEqual(self.tree.sheets(node=I), ["s", "t", "u", "v"])
        self.assertEqual(self.tree.sheets(D), ["w"])
        self.assertEqual(len(self.tree), 5)

    def test_kind_of(self):
        self.assertEqual([self.tree.kind_of(sheet) for sheet in "stuvw"], [A, A, B, C, D])
        for text in ["x", "", "S", "a long text of no sheet", "st"]:
            self.assertIsNone(self.tree.kind_of(text))

    def test_parent_above_inner(self):
        self.assertEqual([self.tree.parent(node) for node in [A, B, C, D, F, H, I]], [F, F, H, None, H, I, None])
        self.assertEqual([self.tree.above(A, rank) for rank in range(6)], [A, F, H, None, I, None])
        self.assertEqual([self.tree.above(C, rank) for rank in range(6)], [C, None, H, None, I, None])
        self.assertEqual([self.tree.above(D, rank) for rank in range(6)], [D, None, None, None, None, None])
        self.assertEqual([self.tree.above(H, rank) for rank in range(6)], [None, None, H, None, I, None])
        self.assertEqual(self.tree.above(node=F, rank=1), F)
        self.assertEqual(self.tree.inner(F), [A, B])
        self.assertEqual(self.tree.inner(H), [C, F])
        self.assertEqual(self.tree.inner(I), [H])
        self.assertEqual(self.tree.inner(A), [])

    def test_no_node(self):
        asks = [self.tree.sheets, self.tree.parent, self.tree.inner, lambda node: self.tree.above(node, 0)]
        for ask in asks:
            for node in [(0, "z"), G, (3, "h"), (0, "f"), (1, "a"), (5, "i")]:
                self.assertEqual(refusal(self, NoNode, ask, node).node, node)
        for thing in strange():
            if not is_node(thing):
                for ask in asks[1:]:
                    self.assertIs(refusal(self, NoNode, ask, thing).node, thing)
        refusal(self, NoNode, self.tree.parent, (False, "a"))

    def test_told_lists_are_new_ones(self):
        for ask in [self.tree.nodes, self.tree.sheets, lambda: self.tree.sheets(F), lambda: self.tree.inner(H)]:
            before = ask()
            ask().clear()
            self.assertEqual(ask(), before)


class Made(unittest.TestCase):
    def test_of_nothing(self):
        for tree in [Tree(), Tree({}), Tree({}, {}), Tree(None, None), Tree({}, {A: F, F: H}), Tree(None, {A: None})]:
            self.assertEqual((tree.nodes(), tree.sheets(), len(tree)), ([], [], 0))
            self.assertIsNone(tree.kind_of("s"))
            self.assertEqual(tree, Tree())
            refusal(self, NoNode, tree.parent, A)

    def test_what_is_told_of_nodes_that_are_not_in_it_is_left_out(self):
        outsider = Tree({A: ["s"]}, {A: F, B: G, G: H, H: I})
        self.assertEqual(outsider.nodes(), [A, F])
        self.assertEqual(outsider, Tree({A: ["s"]}, {A: F}))
        self.assertIsNone(outsider.parent(F))
        for node in [B, G, H, I]:
            refusal(self, NoNode, outsider.parent, node)
        rows = Tree({A: ["s"]}, {A: F, F: H, H: I, G: H, B: G})
        self.assertEqual(rows.nodes(), [A, F, H, I])
        self.assertEqual(rows.inner(H), [F])

    def test_kinds_that_share_what_is_above_them(self):
        tree = Tree({A: ["s"], B: ["t"]}, {B: F, A: F, F: H})
        self.assertEqual((tree.nodes(), tree.sheets(H)), ([A, B, F, H], ["s", "t"]))

    def test_lists_and_tuples_and_names(self):
        self.assertEqual(Tree(kinds={A: ("s", "t")}, parents={A: None}), Tree({A: ["t", "s"]}))

    def test_what_is_handed_in_is_a_copy(self):
        kinds, parents = {A: ["s"]}, {A: F}
        tree = Tree(kinds, parents)
        kinds[A].append("t")
        kinds[B] = ["u"]
        parents[A] = H
        parents[F] = H
        self.assertEqual((tree.nodes(), tree.sheets(), tree.parent(A), tree.parent(F)), ([A, F], ["s"], F, None))
        self.assertEqual((kinds, parents), ({A: ["s", "t"], B: ["u"]}, {A: H, F: H}))

    def test_ranks_at_their_ends(self):
        tree = Tree({A: ["s"]}, {A: (5, "z")})
        self.assertEqual(tree.nodes(), [A, (5, "z")])
        self.assertEqual(tree.above(A, 5), (5, "z"))


class Refused(unittest.TestCase):
    def part(self, *args, **more):
        return refusal(self, BadTree, Tree, *args, **more).part

    def test_kinds(self):
        bad = [
            [], (), "", 0, False, [(A, ["s"])], {A: []}, {A: ()}, {A: "s"}, {A: "st"}, {A: ["s", "s"]}, {A: ["S"]},
            {A: [""]}, {A: None}, {A: {"s": 1}}, {A: {"s"}}, {A: ["s", 1]}, {F: ["s"]}, {"a": ["s"]}, {0: ["s"]},
            {(0, "A"): ["s"]}, {(False, "a"): ["s"]}, {(0.0, "a"): ["s"]}, {A: ["s"], F: ["t"]}, {None: ["s"]},
            {A: ["a" * 13]}, {A: [["s"]]}]
        for thing in strange() + bad:
            if thing is None or type(thing) is dict and not thing:
                continue
            with self.subTest(thing=repr(type(thing))):
                self.assertEqual(self.part(thing), "kinds")
                self.assertEqual(self.part(thing, 7), "kinds")

    def test_kinds_go_ahead_of_sheets_and_sheets_ahead_of_parents(self):
        self.assertEqual(self.part({A: ["s"], B: ["s"], C: []}), "kinds")
        self.assertEqual(self.part({A: ["s"], B: ["s"]}), "sheets")
        self.assertEqual(self.part({A: ["t", "s"], B: ["u"], C: ("v", "t")}, 7), "sheets")
        self.assertEqual(self.part({A: ["s"], B: ["s"]}, {A: A}), "sheets")

    def test_parents(self):
        bad = [
            [], (), "", 0, False, [(A, F)], {A: B}, {A: A}, {F: A}, {F: G}, {F: F}, {I: H}, {(5, "z"): (5, "y")},
            {A: "f"}, {A: [1, "f"]}, {A: (True, "f")}, {A: (6, "f")}, {A: (1, "F")}, {"a": F}, {None: F}, {(6, "z"): None},
            {(False, "a"): F}, {A: False}, {A: ()}, {A: F, B: B}, {G: F}, {A: 1}]
        for thing in strange() + bad:
            if thing is None or type(thing) is dict and not thing:
                continue
            with self.subTest(thing=repr(type(thing))):
                self.assertEqual(self.part({A: ["s"]}, thing), "parents")
                self.assertEqual(self.part(parents=thing), "parents")

    def test_parents_of_outsiders_are_refused_too(self):
        self.assertEqual(self.part({A: ["s"]}, {G: F}), "parents")


class Equal(unittest.TestCase):
    def test_equal(self):
        self.assertEqual(some_tree(), some_tree())
        self.assertIs(some_tree() == some_tree(), True)
        self.assertEqual(Tree({A: ["s"], B: ["t"]}), Tree({B: ["t"], A: ["s"]}))
        self.assertEqual(Tree({A: ["s"]}, {A: None}), Tree({A: ["s"]}, {B: F}))

    def test_unequal(self):
        tree = Tree({A: ["s", "t"]}, {A: F})
        others = [
            Tree({A: ["s"]}, {A: F}), Tree({A: ["s", "t"]}), Tree({A: ["s", "t"]}, {A: G}), Tree({B: ["s", "t"]}, {B: F}),
            Tree({A: ["s"], B: ["t"]}, {A: F, B: F}), Tree({A: ["s", "t"]}, {A: F, F: H}), Tree()]
        for other in others:
            self.assertIs(tree == other, False)
            self.assertIs(tree != other, True)

    def test_false_of_what_is_no_tree(self):
        for thing in strange():
            if type(thing).__name__ not in ("Agreeing", "Angry"):
                self.assertIs(Tree() == thing, False)


if __name__ == "__main__":
    unittest.main()
