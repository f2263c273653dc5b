import itertools
import random
import unittest

from kindnames.shared import common, distance, groups, shared_groups
from kindnames.trees import Tree
from slow_trees import all_trees, are_nested, grown_tree, node_sheets

A, B, C = (0, "a"), (0, "b"), (0, "c")
F, G, H = (1, "f"), (1, "g"), (2, "h")

ONE = Tree({A: ["s", "t"], B: ["u"], C: ["v", "w"]}, {A: F, B: F, F: H, C: H})
TWO = Tree({A: ["t", "s"], B: ["u", "x"], C: ["v"]}, {B: F, C: F})
THREE = Tree({A: ["u"], B: ["s", "t", "v"]})


class Common(unittest.TestCase):
    def test_what_all_place(self):
        self.assertEqual(common([]), [])
        self.assertEqual(common(()), [])
        self.assertEqual(common([ONE]), ["s", "t", "u", "v", "w"])
        self.assertEqual(common([ONE, TWO]), ["s", "t", "u", "v"])
        self.assertEqual(common(trees=(TWO, ONE, THREE)), ["s", "t", "u", "v"])
        self.assertEqual(common([ONE, Tree(), TWO]), [])
        self.assertEqual(common([Tree()]), [])
        self.assertEqual(common([ONE, Tree({A: ["y", "w"]})]), ["w"])


class Groups(unittest.TestCase):
    def test_nodes_sheets(self):
        self.assertEqual(groups(ONE, ["s", "t", "u", "v", "w"]), [
            ("s", "t"), ("s", "t", "u"), ("s", "t", "u", "v", "w"), ("v", "w")])
        self.assertEqual(groups(TWO, ["x", "v", "u", "t", "s"]), [("s", "t"), ("u", "v", "x"), ("u", "x")])

    def test_what_is_among_the_sheets(self):
        # One of C is none; F and H come to the same.
        self.assertEqual(groups(ONE, ["s", "u"]), [("s", "u")])
        self.assertEqual(groups(ONE, ["w", "s", "u"]), [("s", "u"), ("s", "u", "w")])
        self.assertEqual(groups(ONE, ("t", "v", "zz", "yy")), [("t", "v")])
        self.assertEqual(groups(ONE, ["s", "s"]), [])
        self.assertEqual(groups(tree=ONE, sheets=[]), [])
        self.assertEqual(groups(Tree(), ["s", "t"]), [])
        self.assertEqual(groups(THREE, ["s", "u"]), [])

    def test_told_anew(self):
        sheets = ["t", "s"]
        groups(ONE, sheets).clear()
        self.assertEqual(groups(ONE, sheets), [("s", "t")])
        self.assertEqual(sheets, ["t", "s"])

    def test_held_beside_going_up(self):
        chance = random.Random(101)
        for _ in range(60):
            tree = grown_tree(chance, "klmnopqr")
            sheets = chance.sample("jklmnopqr", chance.randrange(10))
            want = {tuple(sorted(set(some) & set(sheets))) for some in node_sheets(tree)}
            self.assertEqual(groups(tree, sheets), sorted(some for some in want if len(some) > 1))


class Shared(unittest.TestCase):
    def test_no_trees_and_one(self):
        self.assertEqual(shared_groups([]), [])
        self.assertEqual(shared_groups([ONE]), [
            (("s", "t"), 1), (("s", "t", "u"), 1), (("s", "t", "u", "v", "w"), 1), (("v", "w"), 1)])
        self.assertEqual(shared_groups([Tree()]), [])

    def test_more_than_half(self):
        # Over s, t, u, v: two of two, and just half of them; two of three, one of three.
        self.assertEqual(shared_groups([ONE, TWO]), [(("s", "t"), 2)])
        self.assertEqual(shared_groups([ONE, TWO, THREE]), [(("s", "t"), 2)])
        self.assertEqual(shared_groups([ONE, THREE]), [])
        self.assertEqual(shared_groups([ONE, THREE, ONE]), [(("s", "t"), 2), (("s", "t", "u"), 2), (("s", "t", "u", "v"), 2)])
        self.assertEqual(shared_groups([ONE, ONE, THREE, THREE]), [])
        self.assertEqual(shared_groups((ONE, ONE, THREE, THREE, THREE)), [(("s", "t", "v"), 3)])
        self.assertEqual(shared_groups(trees=[THREE, ONE, ONE, THREE, ONE, TWO]), [(("s", "t"), 4)])

    def test_rising_whatever_tree_has_them_first(self):
        last = Tree({A: ["s"], B: ["t"], C: ["v", "w"]})
        both = Tree({A: ["s", "t"], C: ["v", "w"]})
        self.assertEqual(shared_groups([last, both, both]), [(("s", "t"), 2), (("v", "w"), 3)])

    def test_over_the_sheets_that_all_place(self):
        self.assertEqual(shared_groups([ONE, ONE, Tree({A: ["v", "w"]})]), [(("v", "w"), 3)])
        self.assertEqual(shared_groups([ONE, ONE, Tree({A: ["v"]})]), [])
        self.assertEqual(shared_groups([ONE, ONE, Tree()]), [])

    def test_told_anew(self):
        trees = [ONE, TWO]
        shared_groups(trees).clear()
        self.assertEqual(shared_groups(trees), [(("s", "t"), 2)])
        self.assertEqual(trees, [ONE, TWO])

    def test_nested_and_of_the_least_sum(self):
        chance = random.Random(102)
        found = 0
        for _ in range(120):
            sheets = "klmn"
            trees = [Tree({(0, sheet): [sheet] for sheet in sheets}, grown_parents(chance, sheets))
                     for _ in range(chance.randrange(1, 6))]
            told = [some for some, _ in shared_groups(trees)]
            found += len(told) > 1
            self.assertTrue(are_nested(told))
            have = [set(groups(tree, sheets)) for tree in trees]
            for some, many in shared_groups(trees):
                self.assertEqual(many, sum(some in each for each in have))
            every = [set(tree) - drop for tree in map(tuple, all_trees(sheets)) for drop in [set(), {tuple(sheets)}]]
            sums = [sum(len(tree ^ each) for each in have) for tree in every]
            self.assertEqual(sum(len(set(told) ^ each) for each in have), min(sums))
        self.assertGreater(found, 15)


def grown_parents(chance, sheets):
    parents = {(0, sheet): (1, chance.choice("fgi")) for sheet in sheets}
    for family in set(parents.values()):
        parents[family] = chance.choice([(2, "h"), (2, "j"), None])
    return parents


class Distance(unittest.TestCase):
    def test_what_one_alone_has(self):
        # Over s, t, u, v: (s, t), (s, t, u), all four; (s, t), (u, v).
        self.assertEqual(distance(ONE, TWO), 3)
        self.assertEqual(distance(TWO, ONE), 3)
        self.assertEqual(distance(ONE, THREE), 4)
        self.assertEqual(distance(one=THREE, two=TWO), 3)
        self.assertEqual(distance(ONE, Tree({A: ["s", "u"], B: ["w"]})), 1)

    def test_of_itself_and_of_what_shares_no_sheet(self):
        for tree in [ONE, TWO, THREE, Tree()]:
            self.assertEqual(distance(tree, tree), 0)
            self.assertEqual(distance(tree, Tree()), 0)
            self.assertEqual(distance(Tree({A: ["y", "z"]}), tree), 0)

    def test_held_beside_going_up(self):
        chance = random.Random(103)
        for _ in range(60):
            one, two = grown_tree(chance, "klmnop"), grown_tree(chance, "klmnop")
            both = set(one.sheets()) & set(two.sheets())
            have = [{frozenset(set(some) & both) for some in node_sheets(tree)} for tree in [one, two]]
            want = len([some for some in have[0] ^ have[1] if len(some) > 1])
            self.assertEqual(distance(one, two), want)
            self.assertEqual(distance(two, one), want)
            self.assertIs(type(distance(one, two)), int)


if __name__ == "__main__":
    unittest.main()
