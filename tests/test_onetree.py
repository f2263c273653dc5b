import itertools
import random
import unittest

from kindnames.onetree import keeps_all, one_tree, shows_no_tree
from kindnames.shared import groups
from kindnames.trees import Tree
from slow_trees import all_rows, all_trees, are_nested, grown_tree, keeps, parts_by, parts_by_rows_alone
from things import strange

A, B, C, D = (0, "a"), (0, "b"), (0, "c"), (0, "d")
F, G = (1, "f"), (1, "g")

XY = Tree({A: ["x", "y"], B: ["z"]})
XZ = Tree({A: ["z", "x"], B: ["y"]})
YZ = Tree({A: ["x"], B: ["y", "z"]})
NESTED = Tree({A: ["s", "t"], B: ["u"], C: ["v", "w"], D: ["k"]}, {A: F, B: F, C: G, D: G})


class One(unittest.TestCase):
    def test_no_trees_and_few_sheets(self):
        self.assertEqual(one_tree([]), ("tree", []))
        self.assertEqual(one_tree(()), ("tree", []))
        self.assertEqual(one_tree([Tree()]), ("tree", []))
        self.assertEqual(one_tree([Tree({A: ["x"]}), Tree({B: ["x"]})]), ("tree", []))
        self.assertEqual(one_tree([Tree({A: ["y", "x"]})]), ("tree", [("x", "y")]))
        self.assertEqual(one_tree([Tree({A: ["y"]}), Tree({A: ["x"]})]), ("tree", [("x", "y")]))

    def test_one_tree_is_its_groups_with_all_sheets(self):
        self.assertEqual(one_tree([NESTED]), ("tree", [
            ("k", "s", "t", "u", "v", "w"), ("k", "v", "w"), ("s", "t"), ("s", "t", "u"), ("v", "w")]))
        self.assertEqual(one_tree(trees=[XY, XY]), ("tree", [("x", "y"), ("x", "y", "z")]))
        # A group of all sheets parts by no row, one of one sheet is none.
        self.assertEqual(one_tree([Tree({A: ["x", "y", "z"]}, {A: F})]), ("tree", [("x", "y", "z")]))

    def test_trees_of_other_sheets(self):
        self.assertEqual(one_tree([XY, Tree({A: ["p", "x"], B: ["q"]})]), ("tree", [
            ("p", "q", "x", "y", "z"), ("p", "x", "y")]))
        self.assertEqual(one_tree([Tree({A: ["x", "y"]}), Tree({A: ["p", "q"]})]), ("tree", [("p", "q", "x", "y")]))
        self.assertEqual(one_tree([Tree({A: ["x", "y"], B: ["z"]}), Tree({A: ["y", "z"], B: ["w"]})]), ("tree", [
            ("w", "x", "y", "z"), ("x", "y"), ("x", "y", "z")]))

    def test_parted_by_rows_alone(self):
        # Nothing is told of how y and z lie to p: both hang from x, each by a row of its own.
        trees = [Tree({A: ["x", "y"], B: ["w"]}), Tree({A: ["x", "p"], B: ["w"]}), Tree({A: ["p", "x"], B: ["z"], C: ["y"]})]
        self.assertEqual(one_tree(trees), ("tree", [("p", "w", "x", "y", "z"), ("p", "x"), ("p", "x", "y")]))
        # Rows apart from one another.
        trees = [Tree({A: ["k", "l"], B: ["m"]}), Tree({A: ["p", "q"], B: ["r"]})]
        self.assertEqual(one_tree(trees), ("tree", [("k", "l"), ("k", "l", "m", "p", "q", "r"), ("p", "q")]))

    def test_none(self):
        told = one_tree([XY, XZ])
        self.assertEqual(told[:2], ("none", ["x", "y", "z"]))
        self.assertEqual(sorted(told[2]), [("x", "y", "z", 0), ("x", "z", "y", 1)])
        self.assertEqual([type(part) for part in told], [str, list, list])
        self.assertEqual(one_tree([NESTED, XY, Tree({A: ["s", "u"], B: ["t"]})])[:2], ("none", ["s", "t", "u"]))
        self.assertTrue(shows_no_tree([XY, YZ, XZ], *one_tree([XY, YZ, XZ])[1:]))

    def test_told_anew(self):
        trees = [NESTED]
        one_tree(trees)[1].clear()
        self.assertEqual(len(one_tree(trees)[1]), 5)
        self.assertEqual(trees, [NESTED])
        told = one_tree((XY, XZ))
        told[1].clear()
        told[2].clear()
        self.assertTrue(shows_no_tree([XY, XZ], *one_tree((XY, XZ))[1:]))

    def test_just_one_of_both(self):
        chance = random.Random(111)
        seen = {"tree": 0, "none": 0}
        for _ in range(250):
            trees = [grown_tree(chance, chance.choice(["klm", "klmn", "klmn", "klmno"])) for _ in range(chance.choice([1, 2, 2, 3]))]
            sheets = sorted({sheet for tree in trees for sheet in tree.sheets()})
            rows = all_rows(trees)
            keeping = [some for some in all_trees(sheets) if keeps(some, rows)]
            told = one_tree(trees)
            seen[told[0]] += 1
            if told[0] == "tree":
                self.assertIn(told[1], keeping)
                self.assertIs(keeps_all(trees, told[1]), True)
                self.assertEqual([some for some in keeping if parts_by_rows_alone(some, sheets, rows)], [told[1]])
            else:
                self.assertEqual(keeping, [])
                self.assert_paper(trees, told[1], told[2], rows)
        self.assertGreater(min(seen.values()), 50)

    def assert_paper(self, trees, sheets, rows, every):
        self.assertIs(shows_no_tree(trees, sheets, rows), True)
        self.assertGreaterEqual(len(sheets), 3)
        self.assertEqual(sheets, sorted(set(sheets)))
        self.assertEqual(len(rows), len(sheets) - 1)
        self.assertTrue(all(row in every and set(row[:3]) <= set(sheets) for row in rows))
        self.assertEqual(len(parts_by(sheets, rows)), 1)

    def test_large_trees(self):
        chance = random.Random(112)
        sheets = [one + two for one in "klmnop" for two in "abcdefghij"]
        for _ in range(2):
            tree = grown_tree(chance, sheets)
            parts = [Tree({kind: [sheet for sheet in tree.sheets(kind) if sheet not in out] for kind in tree.nodes(rank=0)
                           if set(tree.sheets(kind)) - set(out)}, {node: tree.parent(node) for node in tree.nodes()})
                     for out in [chance.sample(sheets, 20) for _ in range(4)]]
            word, told = one_tree(parts)
            self.assertEqual(word, "tree")
            self.assertIs(keeps_all(parts, told), True)
            self.assertTrue(are_nested(told))
            self.assertIs(keeps_all(parts, groups(tree, tree.sheets())), True)
            trees = [tree, grown_tree(chance, sheets[:40]), grown_tree(chance, sheets[20:])]
            word, some, rows = one_tree(trees)
            self.assertEqual(word, "none")
            self.assert_paper(trees, some, rows, set(all_rows(trees)))


class KeepsAll(unittest.TestCase):
    told = [("k", "s", "t", "u", "v", "w"), ("k", "v", "w"), ("s", "t"), ("s", "t", "u"), ("v", "w")]

    def test_groups_that_keep(self):
        for some in [self.told, self.told[1:], self.told[::-1], self.told * 2, tuple(self.told),
                     self.told + [("k", "s", "t", "u", "v", "w", "zz")], self.told + [("yy", "zz")],
                     [("k", "v", "w", "zz"), ("v", "w"), ("s", "t"), ("s", "t", "u")]]:
            self.assertIs(keeps_all([NESTED], some), True)
        self.assertIs(keeps_all(trees=[XY, NESTED], groups=[*self.told, ("x", "y")]), True)
        for trees in [[], [Tree()], [Tree({A: ["x", "y", "z"]})], [Tree({A: ["x"], B: ["y"]})]]:
            self.assertIs(keeps_all(trees, []), True)
            self.assertIs(keeps_all(trees, ()), True)
            self.assertIs(keeps_all(trees, [("x", "y")]), True)

    def test_groups_out(self):
        for out in self.told[1:]:
            self.assertIs(keeps_all([NESTED], [some for some in self.told if some != out]), False)
            self.assertIs(keeps_all([XY, NESTED, XY], [("x", "y")] + [some for some in self.told if some != out]), False)
        self.assertIs(keeps_all([NESTED, XY], self.told), False)
        self.assertIs(keeps_all([XY], []), False)

    def test_a_group_too_wide_or_too_narrow(self):
        self.assertIs(keeps_all([XY], [("x", "y", "z")]), False)
        self.assertIs(keeps_all([Tree({A: ["w", "x", "y"], B: ["z"]})], [("w", "x")]), False)
        self.assertIs(keeps_all([Tree({A: ["w", "x", "y"], B: ["z"]})], [("w", "x"), ("w", "x", "y")]), True)
        # A row for each sheet that is not in it: one group needn't serve all of them.
        tree = Tree({A: ["w", "x"], B: ["y"], C: ["z"]})
        self.assertIs(keeps_all([tree], [("w", "x", "y")]), False)
        self.assertIs(keeps_all([tree], [("w", "x")]), True)

    def test_groups_that_cross(self):
        self.assertIs(keeps_all([XY], [("x", "y"), ("y", "z")]), False)
        self.assertIs(keeps_all([XY, YZ], [("x", "y"), ("y", "z")]), False)
        self.assertIs(keeps_all([XY], [("x", "y"), ("pp", "qq"), ("qq", "rr")]), False)
        self.assertIs(keeps_all([XY], [("x", "y"), ("pp", "qq"), ("rr", "ss"), ("pp", "qq", "rr")]), False)

    def test_groups_that_are_none(self):
        for bad in [("x",), (), ("z", "y"), ("y", "y"), ("x", "y", "y"), ["x", "y"], "xy", ("x", "Y"), ("x", 5), (1, 2), None,
                    ("x", "z", "y"), ("p", "q", None), ("", "x"), (("x", "y"),), ("x", "abcdefghijklm")]:
            self.assertIs(keeps_all([XY], [("x", "y"), bad]), False, bad)
            self.assertIs(keeps_all([XY], [bad, ("x", "y")]), False, bad)
            self.assertIs(keeps_all([], [bad]), False, bad)
        for bad in [None, {("x", "y"): 1}, {("x", "y")}, ("x", "y"), "xy", iter([("x", "y")]), 0]:
            self.assertIs(keeps_all([XY], bad), False)

    def test_of_anything(self):
        for thing in strange():
            empty = isinstance(thing, (list, tuple)) and len(thing) == 0
            self.assertIs(keeps_all([], thing), empty)
            self.assertIs(keeps_all([XY], thing), False)
            for bad in [thing, ("x", thing), (thing, "y"), ("x", "y", thing)]:
                self.assertIs(keeps_all([XY], [("x", "y"), bad]), bad == ("x", "y", "z") if isinstance(bad, str) else False)

    def test_held_beside_all_trees(self):
        chance = random.Random(113)
        seen = {True: 0, False: 0}
        for _ in range(40):
            trees = [grown_tree(chance, "klmn") for _ in range(chance.choice([1, 1, 2]))]
            rows = all_rows(trees)
            for some in all_trees(list("klmn")):
                seen[keeps(some, rows)] += 1
                self.assertIs(keeps_all(trees, some), keeps(some, rows))
            every = [group for many in (2, 3, 4) for group in itertools.combinations("klmn", many)]
            for _ in range(10):
                some = [chance.choice(every) for _ in range(chance.randrange(5))]
                self.assertIs(keeps_all(trees, some), are_nested(some) and keeps(some, rows))
        self.assertGreater(min(seen.values()), 100)


class ShowsNoTree(unittest.TestCase):
    # Four sheets, three trees: x and y without z, z and y without x, w and x without y.
    trees = [Tree({A: ["x", "y"], B: ["z"]}), Tree({A: ["y", "z"], B: ["w", "x"]}), Tree({A: ["w", "x"], B: ["y"]})]
    sheets = ["w", "x", "y", "z"]
    rows = [("x", "y", "z", 0), ("y", "z", "w", 1), ("w", "x", "y", 2)]

    def test_papers(self):
        for rows in itertools.permutations(self.rows):
            self.assertIs(shows_no_tree(self.trees, self.sheets, list(rows)), True)
            self.assertIs(shows_no_tree(self.trees, tuple(self.sheets), rows), True)
        for row in [("w", "x", "z", 1), ("w", "x", "y", 1)]:
            self.assertIs(shows_no_tree(self.trees, self.sheets, self.rows[:2] + [row]), True)
        self.assertIs(shows_no_tree(trees=self.trees, sheets=["x", "y", "z"], rows=[self.rows[0], ("y", "z", "x", 1)]), True)
        self.assertIs(shows_no_tree([XY, XZ], ["x", "y", "z"], [("x", "z", "y", 1), ("x", "y", "z", 0)]), True)

    def test_rows_with_something_otherwise(self):
        first, second, third = self.rows
        for rows in [
            [], [first, second], [second, third], self.rows + [("w", "x", "z", 1)], [first, second, first],
            # Tied are these alone: not all.
            [third, ("w", "x", "z", 1), second], [first, second, ("y", "z", "x", 1)],
            # Turned about, of another tree, of sheets that lie together or of which none is there.
            [first, second, ("x", "w", "y", 2)], [first, ("z", "y", "w", 1), third], [("x", "y", "z", 1), second, third],
            [first, second, ("w", "x", "y", 0)], [first, second, ("w", "x", "z", 2)], [first, second, ("w", "x", "x", 2)],
            [first, second, ("w", "w", "y", 2)], [first, second, ("w", "y", "x", 2)], [first, second, ("w", "x", "v", 2)],
            [first, second, ("v", "x", "y", 2)], [first, ("y", "z", "y", 1), third],
            [first, second, ("w", "x", "y", 3)], [first, second, ("w", "x", "y", -1)], [first, second, ("w", "x", "y")],
            [first, second, ("w", "x", "y", 2, 2)], [first, second, ["w", "x", "y", 2]], [first, second, ("w", "x", "y", 2.0)],
            [("x", "y", "z", False), second, third], [first, ("y", "z", "w", True), third], [first, second, None],
            None, first, iter(self.rows), {row: True for row in self.rows},
        ]:
            self.assertIs(shows_no_tree(self.trees, self.sheets, rows), False, rows)

    def test_sheets_with_something_otherwise(self):
        for sheets in [["w", "x", "y"], ["x", "y", "z"], ["w", "x", "y", "z", "zz"], ["z", "y", "x", "w"], ["w", "x", "x", "y", "z"],
                       ["w", "x", "y", "y"], ["w", "x", "y", 5], ["w", "x", "z", "y"], [], None, "wxyz", {"w", "x", "y", "z"},
                       {"w": 1, "x": 1, "y": 1, "z": 1}, iter("wxyz")]:
            self.assertIs(shows_no_tree(self.trees, sheets, self.rows), False, sheets)
        # Two sheets are parted always, and a row has three.
        self.assertIs(shows_no_tree([XY, XZ], ["x", "y"], [("x", "y", "z", 0)]), False)
        self.assertIs(shows_no_tree([XY], ["x"], []), False)
        self.assertIs(shows_no_tree([XY], [], []), False)
        self.assertIs(shows_no_tree([], [], []), False)

    def test_sheets_that_a_tree_does_not_place(self):
        trees = [Tree({A: ["x", "y"]}), Tree({A: ["x", "z"], B: ["y"]})]
        self.assertIs(shows_no_tree(trees, ["x", "y", "z"], [("x", "y", "z", 0), ("x", "z", "y", 1)]), False)
        self.assertIs(shows_no_tree(trees, ["x", "y", "z"], [("x", "z", "y", 1), ("x", "z", "y", 1)]), False)

    def test_of_anything(self):
        trees, sheets, rows = [XY, XZ], ["x", "y", "z"], [("x", "y", "z", 0), ("x", "z", "y", 1)]
        self.assertIs(shows_no_tree(trees, sheets, rows), True)
        for thing in strange():
            self.assertIs(shows_no_tree(trees, thing, rows), False)
            self.assertIs(shows_no_tree(trees, sheets, thing), False)
            self.assertIs(shows_no_tree([], thing, thing), False)
            for place in range(3):
                self.assertIs(shows_no_tree(trees, sheets[:place] + [thing] + sheets[place + 1:], rows), False)
            for at in range(4):
                if at < 3 or type(thing) is not int or thing != 1:
                    bad = (*rows[1][:at], thing, *rows[1][at + 1:])
                    self.assertIs(shows_no_tree(trees, sheets, [rows[0], bad]), False)
            self.assertIs(shows_no_tree(trees, sheets, [rows[0], thing]), False)

    def test_held_beside_all_rows(self):
        chance = random.Random(114)
        seen = {True: 0, False: 0}
        for _ in range(90):
            trees = [grown_tree(chance, "klmn") for _ in range(3)]
            every = all_rows(trees)
            for _ in range(15):
                sheets = sorted(chance.sample("klmn", chance.choice([3, 3, 4])))
                near = [row for row in every if set(row[:3]) <= set(sheets)] or every
                if not near:
                    continue
                rows = [chance.choice(near) for _ in range(len(sheets) - 1)]
                if chance.random() < 0.1:
                    rows[0] = (*rows[0][:3], chance.randrange(3))
                want = all(row in every and set(row[:3]) <= set(sheets) for row in rows)
                want = want and len(parts_by(sheets, rows)) == 1
                seen[want] += 1
                self.assertIs(shows_no_tree(trees, sheets, rows), want)
        self.assertGreater(min(seen.values()), 80)


if __name__ == "__main__":
    unittest.main()
