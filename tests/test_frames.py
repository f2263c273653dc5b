import itertools
import random
import unittest

from kindnames.errors import BadFrame, BadSaying, TooMany
from kindnames.frames import Frame, Saying, said
from kindnames.trees import Tree
from slow_right import some_tree
from things import Agreeing, refusal, strange

A, B, C, D = (0, "a"), (0, "b"), (0, "c"), (0, "d")
F, G, H = (1, "f"), (1, "g"), (2, "h")


def kinds(many, letter="k"):
    """A tree of so many kinds, each with a sheet."""
    words = [letter + one + two for one in "abcdefghijklmnopqrstuvwxyz" for two in "abcdefghijklmnopqrstuvwxyz"]
    return Tree({(0, word): [word] for word in words[:many]})


ONE = Tree({B: ["s"], A: ["t"], C: ["u"]}, {A: F, B: F, F: H})
TWO = Tree({D: ["s", "t"]}, {D: G})


def is_number_of_two(thing):
    return type(thing) is int and thing in (0, 1)


class Places(unittest.TestCase):
    def test_two_trees(self):
        self.assertEqual(Frame([ONE, TWO]).places(), [
            (A, D), (A, None), (B, D), (B, None), (C, D), (C, None), (None, D)])
        self.assertEqual(Frame([TWO, ONE]).places(), [
            (D, A), (D, B), (D, C), (D, None), (None, A), (None, B), (None, C)])
        self.assertEqual(Frame((TWO, TWO)).places(), [(D, D), (D, None), (None, D)])

    def test_three_trees(self):
        one = Tree({A: ["s"]})
        self.assertEqual(Frame([one, TWO, one]).places(), [
            (A, D, A), (A, D, None), (A, None, A), (A, None, None), (None, D, A), (None, D, None), (None, None, A)])

    def test_open_nodes_of_each_tree(self):
        # A thing may be in F and in none of what lies straight in it, and in H but not in F.
        self.assertEqual(Frame([ONE, TWO], open_nodes=[(0, H), (0, F)], closed=[1]).places(), [
            (node, D) for node in [A, B, C, F, H, None]])
        self.assertEqual(Frame([TWO, TWO], open_nodes=[(1, G)]).places(), [
            (D, D), (D, G), (D, None), (None, D), (None, G)])
        self.assertEqual(Frame([TWO, TWO], open_nodes=((1, G), (0, G))).places(), [
            (D, D), (D, G), (D, None), (G, D), (G, G), (G, None), (None, D), (None, G)])

    def test_open_kinds_say_nothing(self):
        plain = Frame([ONE, TWO]).places()
        self.assertEqual(Frame([ONE, TWO], open_nodes=[(0, A), (1, D), (0, B)]).places(), plain)
        self.assertEqual(Frame([ONE, TWO], open_nodes=[(0, A), (0, F)]).places(), Frame([ONE, TWO], open_nodes=[(0, F)]).places())

    def test_closed_trees(self):
        self.assertEqual(Frame([ONE, TWO], closed=[0]).places(), [(A, D), (A, None), (B, D), (B, None), (C, D), (C, None)])
        self.assertEqual(Frame([ONE, TWO], closed=(1,)).places(), [(A, D), (B, D), (C, D), (None, D)])
        self.assertEqual(Frame([ONE, TWO], closed=[1, 0]).places(), [(A, D), (B, D), (C, D)])

    def test_told_twice(self):
        self.assertEqual(Frame([ONE, TWO], closed=[1, 0, 1]).places(), Frame([ONE, TWO], closed=[0, 1]).places())
        self.assertEqual(Frame([ONE, TWO], open_nodes=[(0, F), (0, F)]).places(), Frame([ONE, TWO], open_nodes=[(0, F)]).places())

    def test_a_tree_without_kinds_is_as_if_not_closed(self):
        self.assertEqual(Frame([Tree(), TWO]).places(), [(None, D)])
        self.assertEqual(Frame([Tree(), TWO], closed=[0]).places(), [(None, D)])
        self.assertEqual(Frame([Tree(), TWO], closed=[0, 1]).places(), [(None, D)])
        self.assertEqual(Frame([Tree(), Tree()]).places(), [])
        self.assertEqual(Frame([Tree(), Tree(), Tree()], closed=[0, 1, 2]).places(), [])

    def test_beside_the_words(self):
        chance = random.Random(30)
        for _ in range(60):
            trees = [some_tree(chance) for _ in range(chance.choice([2, 2, 3]))]
            trees[0] = chance.choice([trees[0], Tree()])
            sides = [(number, node) for number, tree in enumerate(trees) for node in tree.nodes()]
            opened = [side for side in sides if chance.random() < 0.3]
            closed = [number for number in range(len(trees)) if chance.random() < 0.3]
            rows = []
            for number, tree in enumerate(trees):
                items = [node for node in tree.nodes() if node[0] == 0 or (number, node) in opened]
                outside = number not in closed or not tree.nodes(rank=0)
                rows.append(items + [None] * outside)
            every = [place for place in itertools.product(*rows) if set(place) != {None}]
            chance.shuffle(opened)
            frame = Frame(trees, open_nodes=opened, closed=closed)
            self.assertEqual(frame.places(), every)
            order = sorted(every, key=lambda place: [(item is None, item or ()) for item in place])
            self.assertEqual(frame.places(), order)

    def test_frames_never_change(self):
        trees, opened, closed = [ONE, TWO], [(0, F)], [1]
        frame = Frame(trees, open_nodes=opened, closed=closed)
        before = frame.places()
        trees.clear()
        opened.append((0, H))
        closed.clear()
        frame.places().clear()
        self.assertEqual(frame.places(), before)
        self.assertEqual(len(before), 5)
        self.assertTrue(all(type(place) is tuple for place in before))
        self.assertEqual(Frame(trees=[ONE, TWO], open_nodes=(), closed=()).places(), Frame([ONE, TWO]).places())


class BadFrames(unittest.TestCase):
    def part(self, trees=(ONE, TWO), open_nodes=(), closed=()):
        return refusal(self, BadFrame, Frame, trees, open_nodes=open_nodes, closed=closed).part

    def test_trees(self):
        for trees in [[], [ONE], [ONE] * 4, [ONE, None], [ONE, TWO, 5], {ONE.sheets()[0]: ONE, "t": TWO}, None, ONE, "ab",
                      iter([ONE, TWO]), [ONE, {A: ["s"]}], [Tree, Tree]]:
            self.assertEqual(self.part(trees), "trees")

    def test_open(self):
        for side in [(2, A), (-1, A), (0, D), (1, A), (0, G), (0, (0, "z")), (True, D), (False, A), (0, None), (0,), (0, A, A),
                     [0, A], (0, list(A)), (0, (False, "a")), A, None, (1.0, D), ("0", A)]:
            self.assertEqual(self.part(open_nodes=[side]), "open")
            self.assertEqual(self.part(open_nodes=[(0, F), side]), "open")
        for opened in [None, 5, {(0, A): True}, "a", (0, A), iter([]), {(0, A)}]:
            self.assertEqual(self.part(open_nodes=opened), "open")

    def test_closed(self):
        for number in [2, -1, True, False, None, 0.0, 1.0, "0", (0,), [0], ONE]:
            self.assertEqual(self.part(closed=[number]), "closed")
            self.assertEqual(self.part(closed=[0, number]), "closed")
        for closed in [None, 0, {0}, {0: 1}, "0", range(1)]:
            self.assertEqual(self.part(closed=closed), "closed")
        # A third tree's side and number are told of three alone.
        self.assertEqual(len(Frame([TWO, TWO, TWO], open_nodes=[(2, G)], closed=[2]).places()), 8)

    def test_the_first_that_is_due(self):
        self.assertEqual(self.part([ONE], [None], [None]), "trees")
        self.assertEqual(self.part([ONE, TWO], [None], [None]), "open")
        self.assertEqual(self.part([kinds(400), kinds(400)], [None], [None]), "open")
        self.assertEqual(self.part([kinds(400), kinds(400)], [], [2]), "closed")

    def test_of_anything(self):
        for thing in strange():
            self.assertEqual(self.part(trees=thing), "trees")
            self.assertEqual(self.part(trees=[ONE, thing]), "trees")
            self.assertEqual(self.part(trees=[thing, thing]), "trees")
            if not isinstance(thing, (list, tuple)) or len(thing):
                self.assertEqual(self.part(open_nodes=thing), "open")
            for side in [thing, (0, thing), (0, A, thing)]:
                self.assertEqual(self.part(open_nodes=[side]), "open")
            if not is_number_of_two(thing):
                self.assertEqual(self.part(open_nodes=[(thing, A)]), "open")
                self.assertEqual(self.part(closed=[thing]), "closed")
            if not isinstance(thing, (list, tuple)) or not all(is_number_of_two(each) for each in thing):
                self.assertEqual(self.part(closed=thing), "closed")

    def test_too_many(self):
        self.assertEqual(len(Frame([kinds(40), kinds(99)], closed=[0]).places()), 4000)
        self.assertEqual(refusal(self, TooMany, Frame, [kinds(57), kinds(68)]).many, 4001)
        self.assertEqual(refusal(self, TooMany, Frame, [kinds(40), kinds(100)], closed=[0]).many, 4040)
        self.assertEqual(refusal(self, TooMany, Frame, [kinds(600), kinds(600), kinds(600)]).many, 601 ** 3 - 1)
        self.assertEqual(refusal(self, TooMany, Frame, [kinds(64), kinds(63)], closed=[0, 1]).many, 4032)

    def test_just_as_many_as_may_be(self):
        # 16 x 10 x 25, all closed, and one place more by other numbers: 4001 is (57 + 1) x (68 + 1) - 1.
        self.assertEqual(len(Frame([kinds(16), kinds(10), kinds(25)], closed=[0, 1, 2]).places()), 4000)
        self.assertEqual(len(Frame([kinds(57), kinds(67)]).places()), 3943)
        self.assertEqual(refusal(self, TooMany, Frame, trees=(kinds(57), kinds(68)), open_nodes=(), closed=()).many, 4001)


class Sayings(unittest.TestCase):
    def test_values(self):
        for both, first, second in itertools.product([True, False, None], repeat=3):
            saying = Saying((0, A), (1, F), both=both, first=first, second=second)
            self.assertEqual((saying.one, saying.other), ((0, A), (1, F)))
            self.assertIs(saying.both, both)
            self.assertIs(saying.first, first)
            self.assertIs(saying.second, second)
        saying = Saying((2, H), (0, A))
        self.assertEqual((saying.one, saying.other, saying.both, saying.first, saying.second), ((2, H), (0, A), None, None, None))

    def test_equal_by_all_five(self):
        parts = [((0, A), (0, B), (1, A)), ((2, A), (2, B)), (True, False, None), (True, False, None), (True, False, None)]
        every = list(itertools.product(*parts))
        sayings = [Saying(one, other, both=both, first=first, second=second) for one, other, both, first, second in every]
        again = [Saying(one=one, other=other, both=both, first=first, second=second)
                 for one, other, both, first, second in every]
        for at, one in enumerate(sayings):
            for place, other in enumerate(again):
                self.assertIs(one == other, at == place)
                self.assertIs(one != other, at != place)

    def test_not_equal_to_what_is_no_saying(self):
        saying = Saying((0, A), (1, A))
        for thing in strange() + [((0, A), (1, A), None, None, None)]:
            if not isinstance(thing, Agreeing):
                self.assertIs(saying.__eq__(thing), False)
        self.assertIs(saying == None, False)
        self.assertIs(saying == "saying", False)

    def part(self, one=(0, A), other=(1, A), **more):
        return refusal(self, BadSaying, Saying, one, other, **more).part

    def test_one_and_other(self):
        bad = [(3, A), (-1, A), (True, A), (False, A), (0, None), (0,), (0, A, A), [0, A], A, None, (0.0, A), (0, list(A)),
               (0, (6, "a")), (0, (False, "a")), "0a"]
        for side in bad:
            self.assertEqual(self.part(one=side), "one")
            self.assertEqual(self.part(other=side), "other")
        for number, node in itertools.product(range(3), [A, B, F]):
            self.assertEqual(self.part(one=(number, A), other=(number, node)), "other")

    def test_no_numbers_for_truths(self):
        for thing in [0, 1, "", "True", 0.0, 1.0, [], (), (True,), 2, b""]:
            for part in ["both", "first", "second"]:
                self.assertEqual(self.part(**{part: thing}), part)

    def test_the_first_that_is_due(self):
        self.assertEqual(self.part(None, None, both=0, first=0, second=0), "one")
        self.assertEqual(self.part((0, A), None, both=0, first=0, second=0), "other")
        self.assertEqual(self.part((0, A), (0, A), both=0, first=0, second=0), "other")
        self.assertEqual(self.part(both=0, first=0, second=0), "both")
        self.assertEqual(self.part(both=True, first=0, second=0), "first")
        self.assertEqual(self.part(both=True, first=False, second=0), "second")

    def test_of_anything(self):
        for thing in strange():
            for one in [thing, (thing, A), (0, thing), (0, A, thing)]:
                if not isinstance(one, tuple) or len(one) != 2 or not is_number_of_two(thing):
                    self.assertEqual(self.part(one=one), "one")
                    self.assertEqual(self.part(other=one), "other")
            if thing is not None and thing is not True and thing is not False:
                for part in ["both", "first", "second"]:
                    self.assertEqual(self.part(**{part: thing}), part)

    def test_words(self):
        told = {"same": (True, False, False), "within": (True, False, True), "round": (True, True, False),
                "cross": (True, True, True), "apart": (False, True, True)}
        for word, (both, first, second) in told.items():
            saying = said((0, A), (2, F), word)
            self.assertEqual(saying, Saying((0, A), (2, F), both=both, first=first, second=second))
            self.assertEqual(said(one=(0, A), other=(2, F), word=word), saying)
            self.assertIs(saying.both, both)
            self.assertIs(saying.first, first)
            self.assertIs(saying.second, second)

    def test_words_refused_first_of_all(self):
        for word in strange() + ["Same", "nothing", "same ", "sam", "both", ("same",), ["same"], b"same"]:
            for one, other in [((0, A), (1, A)), (None, None), ((0, A), (0, A))]:
                self.assertEqual(refusal(self, BadSaying, said, one, other, word).part, "word")
        self.assertEqual(refusal(self, BadSaying, said, None, None, "same").part, "one")
        self.assertEqual(refusal(self, BadSaying, said, (0, A), (0, B), "same").part, "other")


if __name__ == "__main__":
    unittest.main()
