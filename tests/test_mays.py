import itertools
import random
import unittest

from kindnames.errors import BadSaying, BadSide
from kindnames.frames import Frame, Saying, said
from kindnames.mays import blame, follows, may_lie, through
from kindnames.trees import Tree
from kindnames.worlds import shows_clash, shows_world, world
from slow_worlds import PARTS, is_so, small_frame, some_saying, worlds
from things import refusal, strange

A, B, D, E = (0, "a"), (0, "b"), (0, "d"), (0, "e")
F, G = (1, "f"), (1, "g")
WORDS = ["same", "within", "round", "cross", "apart"]

ONE = Tree({A: ["s", "t"], B: ["u"]}, {A: F, B: F})
TWO = Tree({D: ["s"], E: ["u", "v"]}, {D: G})
FRAME = Frame([ONE, TWO])


def lying(first, second):
    """The word for how two lists lie."""
    both = any(each in second for each in first)
    alone = any(each not in second for each in first)
    other = any(each not in first for each in second)
    told = {(True, False, False): "same", (True, False, True): "within", (True, True, False): "round",
            (True, True, True): "cross", (False, True, True): "apart"}
    return told[both, alone, other]


class MayLie(unittest.TestCase):
    def test_a_paper_for_each_word(self):
        told = may_lie(FRAME, [Saying((1, G), (0, B), both=False)], (0, A), (1, D))
        self.assertEqual(list(told), WORDS)
        free = [(A, D), (A, E), (A, None), (B, E), (B, None), (None, D), (None, E)]
        self.assertEqual(told, {
            "same": ("world", [(A, D), (B, E), (B, None), (None, E)]),
            "within": ("world", [(A, D), (B, E), (B, None), (None, D), (None, E)]),
            "round": ("world", [place for place in free if place != (None, D)]),
            "cross": ("world", free),
            "apart": ("clash", ("sheet", "s"), [((A, D), 1, "both")]),
        })

    def test_the_paper_is_that_of_one_saying_more(self):
        chance = random.Random(91)
        seen = {"world": 0, "clash": 0}
        for _ in range(60):
            trees, frame = small_frame(chance)
            sayings = [some_saying(chance, trees) for _ in range(chance.randrange(4))]
            asked = some_saying(chance, trees)
            told = may_lie(frame, sayings, asked.one, asked.other)
            self.assertEqual(list(told), WORDS)
            for word, paper in told.items():
                more = sayings + [said(asked.one, asked.other, word)]
                seen[paper[0]] += 1
                self.assertEqual(paper[0] == "world", len(worlds(trees, frame, more)) > 0)
                if paper[0] == "world":
                    self.assertTrue(shows_world(frame, more, paper[1]))
                    self.assertEqual(paper, world(frame, more))
                else:
                    self.assertTrue(shows_clash(frame, more, paper[1], paper[2]))
        self.assertGreater(min(seen.values()), 60)

    def test_arguments_and_what_is_told_afterwards(self):
        sayings = [Saying((1, G), (0, B), both=False)]
        told = may_lie(frame=FRAME, sayings=sayings, one=(0, A), other=(1, D))
        told["same"][1].clear()
        del told["apart"]
        again = may_lie(FRAME, tuple(sayings), (0, A), (1, D))
        self.assertEqual(list(again), WORDS)
        self.assertEqual(again["same"][1], [(A, D), (B, E), (B, None), (None, E)])
        self.assertEqual(sayings, [Saying((1, G), (0, B), both=False)])

    def test_two_sides_of_one_tree_ahead_of_all_else(self):
        bad = Saying((0, D), (1, A))
        for sayings in [[], [bad]]:
            for one, other in [((0, A), (0, B)), ((1, D), (1, D)), ((0, D), (0, G)), ((2, A), (2, B)), ((7, A), (7, B))]:
                self.assertEqual(refusal(self, BadSaying, may_lie, FRAME, sayings, one, other).part, "other")

    def test_sides_that_the_frame_has_not(self):
        bad = Saying((0, A), (1, A))
        for one, other, side in [((0, D), (1, A), (0, D)), ((0, A), (1, A), (1, A)), ((2, A), (0, A), (2, A)),
                                 ((0, A), (2, A), (2, A)), ((1, F), (0, G), (1, F)),
                                 # Of a tree that no frame has, of no number, of no node.
                                 ((3, A), (0, A), (3, A)), ((0, A), (-1, D), (-1, D)), ((None, A), (1, D), (None, A)),
                                 ((0, None), (1, D), (0, None)), ((0, A), (1, (6, "d")), (1, (6, "d")))]:
            self.assertEqual(refusal(self, BadSide, may_lie, FRAME, [], one, other).side, side)
            self.assertEqual(refusal(self, BadSide, may_lie, FRAME, [Saying((1, E), (2, A)), bad], one, other).side, (2, A))
            self.assertEqual(refusal(self, BadSide, may_lie, FRAME, [bad], one, other).side, (1, A))


class Follows(unittest.TestCase):
    def test_a_saying_of_nothing(self):
        self.assertIs(follows(FRAME, [], Saying((0, A), (1, D))), True)
        self.assertIs(follows(FRAME, [Saying((0, A), (1, E), both=True)], Saying((0, B), (1, D))), True)

    def test_so_in_each_world(self):
        # s is in A and D in each world; t needn't be out of D.
        self.assertIs(follows(FRAME, [], Saying((0, A), (1, D), both=True)), True)
        self.assertIs(follows(FRAME, [], Saying((1, D), (0, F), both=True)), True)
        # Something is in A, and only A's and D's places are left for it.
        sayings = [Saying((0, A), (1, D), both=None, first=False)]
        self.assertIs(follows(FRAME, sayings, Saying((0, A), (1, D), first=False)), True)
        self.assertIs(follows(FRAME, sayings, Saying((0, A), (1, E), both=False)), True)
        self.assertIs(follows(FRAME, sayings, Saying((0, A), (1, E), first=True, both=False)), True)
        self.assertIs(follows(FRAME, sayings, Saying((1, G), (0, A), both=True, second=False)), True)

    def test_not_so_in_some_world(self):
        for saying in [Saying((0, A), (1, D), both=False), Saying((0, A), (1, D), first=False),
                       Saying((0, A), (1, D), first=True), Saying((0, A), (1, D), both=True, second=False),
                       Saying((0, A), (1, D), both=True, second=True), Saying((0, B), (1, D), both=True)]:
            self.assertIs(follows(FRAME, [], saying), False)

    def test_all_follow_where_there_is_no_world(self):
        sayings = [Saying((0, A), (1, D), both=False)]
        for both, first, second in itertools.product([True, False, None], repeat=3):
            saying = Saying((0, B), (1, E), both=both, first=first, second=second)
            self.assertIs(follows(FRAME, sayings, saying), True)

    def test_held_beside_all_worlds(self):
        chance = random.Random(92)
        seen = {True: 0, False: 0}
        for _ in range(200):
            trees, frame = small_frame(chance, most=8)
            sayings = [some_saying(chance, trees) for _ in range(chance.randrange(4))]
            all_worlds = worlds(trees, frame, sayings)
            for _ in range(6):
                saying = some_saying(chance, trees)
                want = all(is_so(trees, saying, places) for places in all_worlds)
                seen[want] += 1
                self.assertIs(follows(frame, sayings, saying), want)
        self.assertGreater(min(seen.values()), 200)

    def test_refused(self):
        fine, bad, worse = Saying((0, A), (1, D)), Saying((0, A), (1, A)), Saying((2, D), (0, D))
        clash = Saying((0, A), (1, D), both=False)
        self.assertEqual(refusal(self, BadSide, follows, FRAME, [], worse).side, (2, D))
        self.assertEqual(refusal(self, BadSide, follows, FRAME, [fine], bad).side, (1, A))
        self.assertEqual(refusal(self, BadSide, follows, FRAME, [bad], worse).side, (1, A))
        self.assertEqual(refusal(self, BadSide, follows, FRAME, [worse, bad], fine).side, (2, D))
        # Also where there is no world, of which all follow.
        self.assertEqual(refusal(self, BadSide, follows, FRAME, [clash], bad).side, (1, A))
        self.assertEqual(refusal(self, BadSide, follows, FRAME, [clash], Saying((0, D), (1, D))).side, (0, D))
        self.assertIs(follows(frame=FRAME, sayings=(fine,), saying=fine), True)


class Through(unittest.TestCase):
    def test_all_pairs_held_beside_all_ways(self):
        # All lists of things in the first, the second, the third, over the seven ways to be in some of them.
        ways = [way for way in itertools.product([True, False], repeat=3) if any(way)]
        found = {pair: [] for pair in itertools.product(WORDS, repeat=2)}
        for many in range(1, len(ways) + 1):
            for taken in itertools.combinations(ways, many):
                lists = [[way for way in taken if way[at]] for at in range(3)]
                if all(lists):
                    pair = (lying(lists[0], lists[1]), lying(lists[1], lists[2]))
                    found[pair].append(lying(lists[0], lists[2]))
        for word, other in found:
            told = through(word, other)
            self.assertEqual(told, [third for third in WORDS if third in found[word, other]])
            self.assertEqual(type(told), list)
            self.assertEqual(through(word=word, other=other), told)

    def test_some_pairs(self):
        self.assertEqual(through("same", "cross"), ["cross"])
        self.assertEqual(through("within", "apart"), ["apart"])
        self.assertEqual(through("within", "round"), WORDS)
        self.assertEqual(through("round", "within"), ["same", "within", "round", "cross"])
        self.assertEqual(through("apart", "within"), ["within", "cross", "apart"])

    def test_told_anew(self):
        through("same", "same").clear()
        self.assertEqual(through("same", "same"), ["same"])

    def test_no_word(self):
        for thing in strange() + ["nothing", "Same", "same "]:
            for word, other in [(thing, "same"), ("same", thing), (thing, thing)]:
                self.assertEqual(refusal(self, BadSaying, through, word, other).part, "word")


class Blame(unittest.TestCase):
    def test_none_where_all_have_a_world(self):
        self.assertIsNone(blame(FRAME, []))
        self.assertIsNone(blame(FRAME, [Saying((0, A), (1, D), first=False), Saying((0, B), (1, E), both=True)]))
        self.assertIsNone(blame(Frame([Tree(), Tree()]), []))

    def test_some_that_have_none(self):
        far = Saying((0, B), (1, E), both=True)
        apart = said((0, A), (1, D), "apart")
        self.assertEqual(blame(FRAME, [far, apart, far]), [1])
        # Something in B and D, and nothing in F and D.
        sayings = [far, Saying((1, D), (0, B), both=True), far, Saying((0, B), (1, G), both=False), far]
        self.assertEqual(blame(FRAME, sayings), [1, 3])
        # Something in F and not in D, and nothing of A and nothing of B but in D.
        loose = Frame([ONE, Tree({D: ["s"], E: ["v"]}, {D: G})])
        three = [Saying((0, F), (1, D), both=True), Saying((0, F), (1, D), first=True), Saying((0, A), (1, D), first=False),
                 Saying((0, B), (1, E), both=False), Saying((0, B), (1, D), first=False)]
        self.assertEqual(blame(loose, three), [1, 2, 4])
        self.assertIn(blame(FRAME, three), [[3], [4]])

    def test_sayings_twice(self):
        need, strike = Saying((1, D), (0, B), both=True), Saying((0, B), (1, G), both=False)
        self.assertIn(blame(FRAME, [need, strike, need, strike]), [[0, 1], [0, 3], [1, 2], [2, 3]])
        self.assertIsNone(blame(FRAME, (strike, strike)))
        apart = said((0, A), (1, D), "apart")
        self.assertIn(blame(FRAME, [apart, apart, apart]), [[0], [1], [2]])

    def test_a_closed_tree_and_a_kind_that_can_have_nothing(self):
        closed = Frame([Tree({A: ["s"], B: ["u"]}, {A: F, B: F}), Tree({D: ["v"]})], closed=[0])
        far = Saying((0, A), (1, D), both=True)
        # All is in F: nothing of D is left where D has nothing of A and of B; and nothing is in D alone.
        self.assertEqual(blame(closed, [Saying((1, D), (0, A), both=False), far, Saying((1, D), (0, B), both=False)][::2]), [0, 1])
        self.assertEqual(blame(closed, [far, Saying((1, D), (0, F), first=True), far]), [1])
        # D can have nothing, but has a sheet.
        plain = Frame([Tree({A: ["s"]}), Tree({D: ["v"]})])
        self.assertEqual(blame(plain, [Saying((0, A), (1, D), first=True), Saying((0, A), (1, D), both=False, second=False)]), [1])

    def test_held_beside_all_worlds(self):
        chance = random.Random(93)
        many = {}
        for _ in range(150):
            trees, frame = small_frame(chance, most=8)
            sayings = [some_saying(chance, trees) for _ in range(chance.randrange(2, 7))]
            sayings += sayings[:chance.randrange(2)]
            told = blame(frame, sayings)
            self.assertEqual(told is None, len(worlds(trees, frame, sayings)) > 0)
            if told is None:
                continue
            many[len(told)] = many.get(len(told), 0) + 1
            self.assertEqual(told, sorted(set(told)))
            self.assertEqual(worlds(trees, frame, [sayings[number] for number in told]), [])
            for out in told:
                self.assertTrue(worlds(trees, frame, [sayings[number] for number in told if number != out]))
        self.assertGreater(min(many[1], many[2]), 5)

    def test_refused_and_arguments(self):
        fine, bad, worse = Saying((0, A), (1, D)), Saying((0, A), (1, A)), Saying((2, D), (0, D))
        self.assertEqual(refusal(self, BadSide, blame, FRAME, [fine, worse, bad]).side, (2, D))
        self.assertEqual(refusal(self, BadSide, blame, FRAME, [bad, worse]).side, (1, A))
        sayings = [said((0, A), (1, D), "apart")]
        told = blame(frame=FRAME, sayings=sayings)
        told.clear()
        self.assertEqual(blame(FRAME, sayings), [0])
        self.assertEqual(sayings, [said((0, A), (1, D), "apart")])


if __name__ == "__main__":
    unittest.main()
