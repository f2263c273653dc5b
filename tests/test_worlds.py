import random
import unittest

from kindnames.errors import BadSide
from kindnames.frames import Frame, Saying, said
from kindnames.trees import Tree
from kindnames.worlds import shows_clash, shows_world, world
from slow_worlds import PARTS, is_clash, is_world, small_frame, some_saying, unstruck, worlds
from things import Agreeing, Angry, refusal, strange

A, B, D, E = (0, "a"), (0, "b"), (0, "d"), (0, "e")
F, G, H = (1, "f"), (1, "g"), (2, "h")

# s lies in A and D, t in A alone, u in B and E, v in E alone.
ONE = Tree({A: ["s", "t"], B: ["u"]}, {A: F, B: F})
TWO = Tree({D: ["s"], E: ["u", "v"]}, {D: G})
FRAME = Frame([ONE, TWO])
EVERY = [(A, D), (A, E), (A, None), (B, D), (B, E), (B, None), (None, D), (None, E)]


class Told(unittest.TestCase):
    def test_no_sayings(self):
        self.assertEqual(world(FRAME, []), ("world", EVERY))
        self.assertEqual(world(frame=FRAME, sayings=()), ("world", EVERY))
        self.assertEqual(world(Frame([Tree(), Tree()]), []), ("world", []))

    def test_all_places_that_no_saying_strikes(self):
        sayings = [Saying((0, A), (1, E), both=False), Saying((1, D), (0, F), first=False)]
        self.assertEqual(world(FRAME, sayings), ("world", [
            (A, D), (A, None), (B, D), (B, E), (B, None), (None, E)]))
        self.assertEqual(world(FRAME, [Saying((0, A), (1, G), first=False)]), ("world", [
            (A, D), (B, D), (B, E), (B, None), (None, D), (None, E)]))
        self.assertEqual(world(FRAME, [Saying((0, A), (1, G), second=False, both=True)]), ("world", [
            (A, D), (A, E), (A, None), (B, E), (B, None), (None, E)]))

    def test_a_sheet_of_two_trees_lacks_a_place(self):
        told = world(FRAME, [Saying((0, B), (1, D)), Saying((0, A), (1, D), both=False)])
        self.assertEqual(told, ("clash", ("sheet", "s"), [((A, D), 1, "both")]))

    def test_a_sheet_that_one_tree_alone_places_lacks_a_place(self):
        # t may be with D, with E, or outside of the second tree.
        sayings = [said((0, A), (1, D), "same"), Saying((0, A), (1, D), both=None)]
        self.assertEqual(world(FRAME, sayings)[0], "world")
        sayings = [Saying((1, E), (0, A), both=False), Saying((0, A), (1, E), first=False)]
        self.assertEqual(world(FRAME, sayings), ("clash", ("sheet", "s"), [((A, D), 1, "first")]))
        only = Frame([Tree({A: ["t"]}), Tree({D: ["v"]})])
        self.assertEqual(world(only, [Saying((0, A), (1, D), both=False, first=False)]), (
            "clash", ("sheet", "t"), [((A, D), 0, "both"), ((A, None), 0, "first")]))

    def test_a_sheet_in_trees_of_which_some_do_not_place_it(self):
        third = Tree({A: ["s"]})
        frame = Frame([ONE, TWO, third], closed=[0, 1, 2])
        # u is in B and E, and in the third tree's only kind, which is closed.
        self.assertEqual(world(frame, [Saying((1, E), (2, A), both=False)]), (
            "clash", ("sheet", "u"), [((B, E, A), 0, "both")]))

    def test_a_saying_lacks_a_place(self):
        sayings = [said((0, F), (1, G), "round"), Saying((0, B), (1, G), both=True), Saying((1, D), (0, B), both=False)]
        told = world(FRAME, sayings)
        self.assertEqual(told, ("clash", ("saying", 1, "both"), [((B, D), 2, "both")]))
        sayings = [Saying((0, F), (1, G), second=True), Saying((1, D), (0, F), first=False)]
        self.assertEqual(world(FRAME, sayings), ("clash", ("saying", 0, "second"), [((None, D), 1, "first")]))

    def test_a_saying_strikes_what_it_needs_itself(self):
        # D is all that lies in G: nothing is in one of them alone.
        three = Frame([ONE, TWO, TWO])
        sayings = [Saying((1, D), (2, G), both=False), Saying((2, D), (1, G), both=True)]
        told = world(three, sayings)
        self.assertEqual(told[:2], ("clash", ("sheet", "s")))
        self.assertTrue(shows_clash(three, sayings, ("saying", 1, "both"), [
            ((A, D, D), 0, "both"), ((B, D, D), 0, "both"), ((None, D, D), 0, "both")]))

    def test_a_need_without_any_place(self):
        # The second tree is closed and all of it lies in one family.
        closed = Frame([Tree({A: ["s"]}), Tree({D: ["s"], E: ["t"]}, {D: G, E: G})], closed=[1])
        sayings = [Saying((0, A), (1, D), both=True), Saying((0, A), (1, G), first=True)]
        self.assertEqual(world(closed, sayings), ("clash", ("saying", 1, "first"), []))
        self.assertIs(shows_clash(closed, sayings, ("saying", 1, "first"), []), True)
        self.assertEqual(world(closed, sayings[:1]), ("world", [(A, D), (A, E), (None, D), (None, E)]))

    def test_open_nodes(self):
        # Something of F that is neither in A nor in B.
        sayings = [Saying((0, F), (1, D), both=True), Saying((0, A), (1, D), both=False), Saying((0, B), (1, D), both=False)]
        plain = Frame([Tree({A: ["t"], B: ["u"]}, {A: F, B: F}), TWO])
        self.assertEqual(world(plain, sayings), ("clash", ("saying", 0, "both"), [((A, D), 1, "both"), ((B, D), 2, "both")]))
        opened = Frame([Tree({A: ["t"], B: ["u"]}, {A: F, B: F}), TWO], open_nodes=[(0, F)])
        self.assertEqual(world(opened, sayings), ("world", [
            (A, E), (A, None), (B, E), (B, None), (F, D), (F, E), (F, None), (None, D), (None, E)]))

    def test_what_is_told_is_new(self):
        sayings = [Saying((0, A), (1, D), both=False)]
        told = world(FRAME, sayings)
        told[2].clear()
        self.assertEqual(world(FRAME, sayings)[2], [((A, D), 0, "both")])
        told = world(FRAME, [])
        told[1].clear()
        self.assertEqual(world(FRAME, [])[1], EVERY)
        self.assertEqual(FRAME.places(), EVERY)
        self.assertEqual(sayings, [Saying((0, A), (1, D), both=False)])

    def test_what_is_handed_in_and_changed_afterwards(self):
        trees = [ONE, TWO]
        frame = Frame(trees)
        trees[0], trees[1] = Tree(), Tree()
        self.assertEqual(world(frame, []), ("world", EVERY))
        self.assertEqual(world(frame, [Saying((0, A), (1, D), both=False)])[:2], ("clash", ("sheet", "s")))
        self.assertIs(shows_world(frame, [], EVERY), True)

    def test_just_one_of_both(self):
        chance = random.Random(81)
        many = {"world": 0, "clash": 0}
        for _ in range(250):
            trees, frame = small_frame(chance)
            sayings = [some_saying(chance, trees) for _ in range(chance.randrange(5))]
            told = world(frame, sayings)
            many[told[0]] += 1
            all_worlds = worlds(trees, frame, sayings)
            self.assertEqual(told[0] == "world", len(all_worlds) > 0)
            if told[0] == "world":
                self.assertEqual(told[1], unstruck(trees, frame, sayings))
                self.assertIn(told[1], all_worlds)
            else:
                self.assertTrue(is_clash(trees, frame, sayings, told[1], told[2]))
                self.assertIs(shows_clash(frame, sayings, told[1], told[2]), True)
                self.assertEqual([type(part) for part in told], [str, tuple, list])
        self.assertGreater(min(many.values()), 60)


class Looks(unittest.TestCase):
    def test_worlds(self):
        sayings = [said((0, A), (1, G), "round"), Saying((0, B), (1, E), both=True)]
        self.assertEqual(world(FRAME, sayings)[1], [(A, D), (A, E), (A, None), (B, E), (B, None), (None, E)])
        for places in [
            [(A, D), (A, E), (A, None), (B, E), (B, None), (None, E)],
            # Fewer, in another order, twice, as a tuple: t needs no place of its own where s is with A.
            [(A, D), (A, None), (B, E)], [(B, E), (A, None), (A, D)], [(A, D), (A, D), (A, E), (B, E), (A, D)],
            ((A, D), (A, None), (B, E)),
        ]:
            self.assertIs(shows_world(FRAME, sayings, places), True)
        for places in [
            # Without a place of s, of what is in A alone, of u, of what is said of B.
            [(A, None), (B, E)], [(A, D), (B, E)], [(A, D), (A, None)], [(A, D), (A, None), (B, None)], [],
            # With places that are struck.
            [(A, D), (A, None), (B, E), (B, D)], [(None, D), (A, D), (A, None), (B, E)],
            # With what is no place of the frame.
            [(A, D), (A, None), (B, E), (None, None)], [(A, D), (A, None), (B, E), (F, E)],
            [(A, D), (A, None), (B, E), (A,)], [(A, D), (A, None), (B, E), (A, D, None)], [(A, D), (A, None), (B, E), ()],
            [(A, D), (A, None), (B, E), (D, A)], [(A, D), (A, None), (B, E), [A, E]], [(A, D), (A, None), (B, E), A],
            [(A, D), (A, None), (B, E), (A, (0, "zz"))], [(A, D), (A, None), (B, E), ((False, "a"), E)],
        ]:
            self.assertIs(shows_world(FRAME, sayings, places), False, places)

    def test_worlds_of_all_lists_of_places(self):
        chance = random.Random(82)
        for _ in range(60):
            trees, frame = small_frame(chance)
            sayings = [some_saying(chance, trees) for _ in range(chance.randrange(4))]
            all_worlds = worlds(trees, frame, sayings)
            for _ in range(12):
                places = [place for place in frame.places() if chance.random() < 0.8]
                self.assertIs(shows_world(frame, sayings, places), places in all_worlds)
                self.assertEqual(is_world(trees, frame, sayings, places), places in all_worlds)
                chance.shuffle(places)
                twice = places + places[:2]
                self.assertIs(shows_world(frame, sayings, twice), is_world(trees, frame, sayings, twice))

    def test_clashes(self):
        sayings = [Saying((0, A), (1, D), both=False), Saying((0, A), (1, G), both=False, first=True),
                   said((0, B), (1, D), "same"), Saying((1, D), (0, B), first=True)]
        three = [((A, D), 0, "both"), ((A, D), 1, "both")]
        for row in three:
            self.assertIs(shows_clash(FRAME, sayings, ("sheet", "s"), [row]), True)
            self.assertIs(shows_clash(FRAME, sayings, ("sheet", "s"), (row,)), True)
        needed = ("saying", 3, "first")
        rows = [((A, D), 2, "second"), ((None, D), 2, "second")]
        self.assertIs(shows_clash(FRAME, sayings, needed, rows), True)
        self.assertIs(shows_clash(FRAME, sayings, needed, [((A, D), 1, "both"), rows[1]]), True)
        self.assertIs(shows_clash(frame=FRAME, sayings=sayings, need=needed, rows=rows), True)
        for bad in [
            [], rows[:1], rows[1:], rows[::-1], rows + rows[1:], [rows[0], rows[0]], [rows[0], ((None, D), 0, "both")],
            [rows[0], ((None, D), 2, "first")], [rows[0], ((None, D), 3, "first")], [rows[0], ((B, D), 2, "second")],
            [rows[0], ((None, D), 4, "second")], [rows[0], ((None, D), -2, "second")], [rows[0], ((None, D), 2, "secon")],
            [rows[0], ((None, D), 2)], [rows[0], ((None, D), 2, "second", 1)], [rows[0], [(None, D), 2, "second"]],
            [rows[0], ([None, D], 2, "second")], [((A, D), True, "both"), rows[1]], [((A, D), False, "both"), rows[1]],
            [rows[0], None], None, rows[0], {rows[0]: rows[1]}, 2,
        ]:
            self.assertIs(shows_clash(FRAME, sayings, needed, bad), False, bad)
        for need in [
            ("saying", 3, "second"), ("saying", 3, "both"), ("saying", 2, "first"), ("saying", 0, "both"),
            ("saying", 4, "first"), ("saying", -1, "first"), ("saying", 3), ("saying", 3, "first", 0), ["saying", 3, "first"],
            ("saying", 3.0, "first"), ("sheet", 3, "first"), ("sheet", "s"), ("sheet", "zz"), ("sheet", "D"), None, (), "saying",
        ]:
            self.assertIs(shows_clash(FRAME, sayings, need, rows), False, need)
        self.assertIs(shows_clash(FRAME, sayings, ("sheet", "zz"), []), False)
        self.assertIs(shows_clash(FRAME, sayings, ("saying", 1, "second"), []), False)

    def test_no_clash_where_a_place_is_left(self):
        sayings = [Saying((0, A), (1, D), both=False)]
        # t may be with E, too, u is with B.
        self.assertIs(shows_clash(FRAME, sayings, ("sheet", "t"), [((A, D), 0, "both")]), False)
        self.assertIs(shows_clash(FRAME, sayings, ("sheet", "u"), [((B, E), 0, "both")]), False)
        self.assertIs(shows_clash(FRAME, [], ("sheet", "s"), [((A, D), 0, "both")]), False)

    def test_clashes_with_something_otherwise(self):
        chance = random.Random(83)
        seen = {True: 0, False: 0}
        for _ in range(150):
            trees, frame = small_frame(chance)
            sayings = [some_saying(chance, trees) for _ in range(chance.randrange(2, 6))]
            told = world(frame, sayings)
            if told[0] == "world":
                continue
            need, rows = told[1], told[2]
            for _ in range(12):
                other = chance.choice([need, need, ("sheet", chance.choice("stuv")),
                                       ("saying", chance.randrange(len(sayings)), chance.choice(PARTS))])
                more = [row if chance.random() < 0.7 else (row[0], chance.randrange(len(sayings)), chance.choice(PARTS))
                        for row in rows if chance.random() < 0.97]
                want = is_clash(trees, frame, sayings, other, more)
                seen[want] += 1
                self.assertIs(shows_clash(frame, sayings, other, more), want)
        self.assertGreater(min(seen.values()), 100)

    def test_of_anything(self):
        sayings = [Saying((0, A), (1, D), both=False)]
        row = ((A, D), 0, "both")
        for thing in strange():
            empty = isinstance(thing, (list, tuple)) and len(thing) == 0
            self.assertIs(shows_world(FRAME, [], thing), False)
            self.assertIs(shows_world(Frame([Tree(), Tree()]), [], thing), empty)
            self.assertIs(shows_world(FRAME, [], EVERY + [thing]), False)
            if thing is not None:
                self.assertIs(shows_world(FRAME, [], EVERY + [(A, thing)]), False)
            self.assertIs(shows_clash(FRAME, sayings, thing, [row]), False)
            for need in [("sheet", thing), (thing, "s"), ("saying", thing, "both"), ("saying", 0, thing)]:
                self.assertIs(shows_clash(FRAME, sayings, need, [row]), False)
            self.assertIs(shows_clash(FRAME, sayings, ("sheet", "s"), thing), False)
            for bad in [thing, (thing, 0, "both"), ((A, thing), 0, "both"), ((A, D), 0, thing)]:
                self.assertIs(shows_clash(FRAME, sayings, ("sheet", "s"), [bad]), False)
            if type(thing) is not int or thing != 0:
                self.assertIs(shows_clash(FRAME, sayings, ("sheet", "s"), [((A, D), thing, "both")]), False)
        for thing in [Agreeing(), Angry()]:
            self.assertIs(shows_world(FRAME, [], [(thing, thing)]), False)


class Refused(unittest.TestCase):
    def test_sides_that_the_frame_has_not(self):
        fine = Saying((0, A), (1, D))
        for bad, side in [
            (Saying((0, D), (1, D)), (0, D)), (Saying((0, A), (1, A)), (1, A)), (Saying((0, G), (1, F)), (0, G)),
            (Saying((2, A), (0, A)), (2, A)), (Saying((1, H), (0, H)), (1, H)), (Saying((0, A), (2, A)), (2, A)),
        ]:
            for sayings in [[bad], [fine, bad], [bad, Saying((0, E), (1, B)), fine]]:
                self.assertEqual(refusal(self, BadSide, world, FRAME, sayings).side, side)
                self.assertEqual(refusal(self, BadSide, shows_world, FRAME, sayings, EVERY).side, side)
                self.assertEqual(refusal(self, BadSide, shows_world, FRAME, sayings, None).side, side)
                self.assertEqual(refusal(self, BadSide, shows_clash, FRAME, sayings, None, None).side, side)
        # Of three trees the third one's sides are there.
        self.assertEqual(world(Frame([ONE, TWO, ONE]), [Saying((2, A), (0, B), both=False)])[0], "world")


if __name__ == "__main__":
    unittest.main()
