import random
import unittest

from kindnames.errors import BadMoment, BadPage, NoEntry, SameMoment
from kindnames.minds import Minds
from kindnames.words import is_moment, is_word
from things import refusal, strange

BIG = 10 ** 12
A, B, C = (0, "a"), (0, "b"), (0, "c")
F, G, H = (1, "f"), (1, "g"), (2, "h")


def some_minds():
    minds = Minds()
    minds.tell((1, 1), "ann", [("put", ["s", "t"], A), ("move", A, F)])
    minds.tell((2, 1), "bob", [("take", "ann"), ("join", A, B)])
    return minds


class Forms(unittest.TestCase):
    def setUp(self):
        self.minds = some_minds()
        self.before = self.minds.pages()

    def place(self, deeds, mind="ann"):
        told = refusal(self, BadPage, self.minds.tell, (5, 1), mind, deeds).place
        self.assertEqual(self.minds.pages(), self.before)
        self.assertEqual(len(self.minds), 2)
        return told

    def let(self, deeds):
        minds = Minds()
        minds.tell((5, 1), "ann", deeds)
        return minds.pages()[0][2]

    def test_deeds_that_are_as_told(self):
        deeds = [
            ("take", "ann"), ("take", "nobody"), ("join", A, B), ("join", F, G), ("join", (5, "x"), (5, "y")),
            ("put", ["s"], A), ("put", ("s", "t", "u"), A), ("out", ["s"]), ("out", ("t", "s")), ("move", A, F),
            ("move", A, (5, "x")), ("move", F, H), ("move", A, None), ("move", (5, "x"), None)]
        for deed in deeds:
            with self.subTest(deed=deed):
                self.assertEqual(len(self.let([deed])), 1)

    def test_deeds_that_are_not_as_told(self):
        deeds = [
            ["take", "ann"], ("take",), ("take", "Ann"), ("take", ""), ("take", None), ("take", "ann", "ann"),
            ("take", ["ann"]), ("Take", "ann"), ("took", "ann"), ("", "ann"), (), ("join",), ("join", A), ("join", A, A),
            ("join", A, F), ("join", A, B, C), ("join", [0, "a"], B), ("join", A, [0, "b"]), ("join", A, None),
            ("join", (False, "a"), B), ("join", (True, "f"), G), ["join", A, B], ("join", "a", "b"),
            ("join", (6, "a"), (6, "b")),
            ("put", ["s"]), ("put", [], A), ("put", (), A), ("put", ["s", "s"], A), ("put", ["s"], F), ("put", ["S"], A),
            ("put", "s", A), ("put", "st", A), ("put", ["s"], [0, "a"]), ("put", ["s"], None), ("put", ["s"], "a"),
            ("put", A, ["s"]), ("put", ["s"], A, A), ("put", {"s": 1}, A), ("put", {"s"}, A), ("put", ["s"], (False, "a")),
            ["put", ["s"], A], ("put", ["s", None], A), ("put", [["s"]], A),
            ("out",), ("out", []), ("out", ()), ("out", ["s", "s"]), ("out", "s"), ("out", ["s"], A), ("out", ["S"]),
            ["out", ["s"]], ("out", None), ("out", {"s"}), ("out", ["s"], None),
            ("move", A), ("move", A, B), ("move", A, A), ("move", F, A), ("move", F, G), ("move", F, F), ("move", A, "f"),
            ("move", None, F), ("move", A, [1, "f"]), ("move", A, (True, "f")), ("move", A, (6, "f")), ("move", A, F, H),
            ("move", "a", F), ["move", A, F], ("move", A, False), ("move", A, 0), ("move", A, ()), ("move", (5, "x"), (5, "y")),
            ("moved", A, F), ("", A, F), ("take", A, F), ("out", A, F), ("put", A, F), ("join", A, None),
            ("move", A, None, None), ("move",), None, "take", 7, {"take": "ann"}, ("take", True),
            (("take", "ann"),), (b"take", "ann"), (b"out", ["s"]), (1, A, B), (None, A, B)]
        for deed in deeds + strange():
            with self.subTest(deed=repr(type(deed))):
                self.assertEqual(self.place([deed]), 0)
                self.assertEqual(self.place([("join", A, B), ("out", ["z"]), deed, deed]), 2)
                self.assertEqual(self.place((("join", A, B), deed)), 1)

    def test_anything_in_a_part_of_a_deed(self):
        for thing in strange():
            deeds = [("take", thing), ("join", thing, A), ("join", A, thing), ("put", thing, A), ("put", ["s"], thing),
                     ("put", [thing], A), ("out", thing), ("out", ["s", thing]), ("move", thing, F), (thing, A, B), (thing, A, F),
                     (thing, "ann"), (thing, ["s"]), ("take", "ann", thing), ("out", ["s"], thing)]
            for deed in deeds:
                with self.subTest(deed=deed[0] if isinstance(deed[0], str) else repr(type(thing))):
                    self.assertEqual(self.place([deed]), 0)
            if thing is not None:
                self.assertEqual(self.place([("move", A, thing)]), 0)

    def test_the_mind_and_the_page(self):
        for thing in strange() + ["Ann", "ann ", "a" * 13, ["ann"], b"ann"]:
            if not is_word(thing):
                self.assertEqual(self.place([], mind=thing), -1)
                self.assertEqual(self.place([None], mind=thing), -1)
        for thing in [None, "", "take", {}, set(), 7, True, {0: ("take", "ann")}, iter([]), range(0), b"", object()]:
            self.assertEqual(self.place(thing), -1)

    def test_a_second_take(self):
        self.assertEqual(self.place([("take", "bob"), ("take", "bob")]), 1)
        self.assertEqual(self.place([("take", "ann"), ("join", A, B), ("take", "bob"), None]), 2)

    def test_a_sheet_in_two_deeds(self):
        put, out = ("put", ["s", "t"], A), ("out", ["u", "t"])
        self.assertEqual(self.place([put, out]), 1)
        self.assertEqual(self.place([out, put]), 1)
        self.assertEqual(self.place([put, ("move", A, F), put]), 2)
        self.assertEqual(self.place([out, out]), 1)
        self.assertEqual(self.place([put, ("put", ["v"], A), ("put", ["w", "v"], B)]), 2)
        self.assertEqual(self.place([put, ("put", ["t"], B)]), 1)
        self.assertEqual(len(self.let([put, ("put", ["u"], A), ("out", ["v"]), ("put", ["w"], B)])), 4)

    def test_a_node_moved_in_two(self):
        self.assertEqual(self.place([("move", A, F), ("move", A, F)]), 1)
        self.assertEqual(self.place([("move", A, F), ("move", B, F), ("move", A, None)]), 2)
        self.assertEqual(self.place([("move", A, None), ("move", F, H), ("move", F, None)]), 2)
        self.assertEqual(len(self.let([("move", A, F), ("move", B, F), ("move", F, H)])), 3)

    def test_sheets_minds_and_nodes_of_one_word_are_not_mixed_up(self):
        deeds = [("take", "a"), ("put", ["a"], A), ("move", A, F), ("out", ["take"]), ("move", (1, "a"), None)]
        self.assertEqual(len(self.let(deeds)), 5)

    def test_a_join_may_be_told_again(self):
        self.assertEqual(len(self.let([("join", A, B), ("join", A, B), ("join", B, A)])), 3)

    def test_the_first_that_is_due(self):
        self.assertEqual(self.place([("take", "bob"), ("take", "bob"), None]), 1)
        self.assertEqual(self.place([("take", "bob"), None, ("take", "bob")]), 1)

    def test_an_empty_page(self):
        self.assertEqual((self.let([]), self.let(())), ((), ()))


class Told(unittest.TestCase):
    def test_moments_go_first(self):
        minds = some_minds()
        for thing in strange() + [(0, 0), (BIG + 1, 1), (1, BIG + 1), [5, 1]]:
            if not is_moment(thing):
                for args in [("ann", []), (None, None), ("ann", [None])]:
                    self.assertIs(refusal(self, BadMoment, minds.tell, thing, *args).moment, thing)
        for moment in [(1, 1), (2, 1)]:
            for args in [("ann", []), (None, None), ("ann", [None])]:
                self.assertEqual(refusal(self, SameMoment, minds.tell, moment, *args).moment, moment)
        self.assertEqual(minds.pages(), some_minds().pages())

    def test_drop(self):
        minds = some_minds()
        for thing in [(1, 2), (0, 1), (0, 0), (True, 1), (1, True), [1, 1], None]:
            self.assertIs(refusal(self, NoEntry, minds.drop, thing).moment, thing)
        self.assertEqual(len(minds), 2)
        self.assertIsNone(minds.drop((1, 1)))
        self.assertEqual(minds.pages(), some_minds().pages()[1:])
        refusal(self, NoEntry, minds.drop, (1, 1))
        self.assertIsNone(minds.tell((1, 1), "cid", []))
        self.assertEqual(minds.pages(mind="cid"), [((1, 1), "cid", ())])

    def test_pages(self):
        minds = Minds()
        self.assertEqual((minds.pages(), len(minds)), ([], 0))
        minds.tell(moment=(3, 1), mind="bob", deeds=(("out", ["t", "s"]),))
        minds.tell((1, 2), "ann", [("put", ["b", "a"], A), ("move", A, None)])
        minds.tell((2, 1), "bob", [])
        told = [((1, 2), "ann", (("put", ("b", "a"), A), ("move", A, None))), ((2, 1), "bob", ()),
                ((3, 1), "bob", (("out", ("t", "s")),))]
        self.assertEqual(minds.pages(), told)
        self.assertEqual(minds.pages(upto=(2, 1)), told[:2])
        self.assertEqual(minds.pages(upto=(2, 0)), told[:1])
        self.assertEqual(minds.pages(mind="bob"), told[1:])
        self.assertEqual(minds.pages(mind="bob", upto=(3, 0)), told[1:2])
        self.assertEqual(minds.pages(mind="cid"), [])
        self.assertIs(type(minds.pages()[0][2]), tuple)
        self.assertIs(type(minds.pages()[0][2][0][1]), tuple)

    def test_what_is_handed_in_and_what_is_told_may_be_changed(self):
        sheets = ["s", "t"]
        deeds = [("put", sheets, A), ("move", A, F)]
        minds = Minds()
        minds.tell((1, 1), "ann", deeds)
        tree, pages = minds.tree("ann"), minds.pages()
        sheets.append("u")
        deeds.append(("out", ["t"]))
        minds.pages().clear()
        minds.line("ann").append((9, 9))
        self.assertEqual((minds.tree("ann"), minds.pages(), minds.line("ann")), (tree, pages, [(1, 1)]))
        self.assertEqual((sheets, len(deeds)), (["s", "t", "u"], 3))

    def test_a_told_tree_stays_as_it_was(self):
        minds = some_minds()
        tree = minds.tree("ann")
        minds.tell((3, 1), "ann", [("out", ["s"])])
        self.assertEqual(tree.sheets(), ["s", "t"])
        self.assertEqual(minds.tree("ann").sheets(), ["t"])


class Lines(unittest.TestCase):
    def minds_of(self, *pages):
        minds = Minds()
        for day, mind, take in pages:
            minds.tell((day, 1), mind, [] if take is None else [("join", A, B), ("take", take)])
        return minds

    def days(self, minds, mind, upto=None):
        return [moment[0] for moment in minds.line(mind, upto=upto)]

    def test_without_a_take_all_its_pages(self):
        minds = self.minds_of((3, "ann", None), (1, "ann", None), (2, "bob", None))
        self.assertEqual(self.days(minds, "ann"), [1, 3])
        self.assertEqual(self.days(minds, "ann", (2, 5)), [1])
        self.assertEqual(self.days(minds, "ann", (0, 0)), [])
        self.assertEqual(self.days(minds, "nobody"), [])

    def test_a_take_of_another_mind(self):
        minds = self.minds_of((1, "bob", None), (2, "ann", None), (3, "ann", "bob"), (4, "bob", None), (5, "ann", None))
        self.assertEqual(self.days(minds, "ann"), [1, 3, 5])
        self.assertEqual(self.days(minds, "ann", (2, 9)), [2])
        self.assertEqual(self.days(minds, "ann", (3, 0)), [2])
        self.assertEqual(self.days(minds, "ann", (3, 1)), [1, 3])
        self.assertEqual(self.days(minds, "bob"), [1, 4])

    def test_the_last_take_counts(self):
        minds = self.minds_of((1, "bob", None), (2, "cid", None), (3, "ann", "bob"), (4, "ann", None), (5, "ann", "cid"))
        self.assertEqual(self.days(minds, "ann"), [2, 5])
        self.assertEqual(self.days(minds, "ann", (4, 9)), [1, 3, 4])

    def test_a_take_of_itself(self):
        minds = self.minds_of((1, "ann", None), (2, "ann", "ann"), (3, "ann", None))
        self.assertEqual(self.days(minds, "ann"), [1, 2, 3])
        minds = self.minds_of((1, "ann", None), (2, "bob", None), (3, "ann", "bob"), (4, "ann", "ann"))
        self.assertEqual(self.days(minds, "ann"), [2, 3, 4])

    def test_a_take_of_a_mind_without_pages(self):
        minds = self.minds_of((1, "ann", None), (2, "ann", "nobody"), (3, "nobody", None), (4, "ann", None))
        self.assertEqual(self.days(minds, "ann"), [2, 4])

    def test_minds_that_take_one_another(self):
        minds = self.minds_of((1, "ann", None), (2, "bob", "ann"), (3, "bob", None), (4, "ann", "bob"), (5, "bob", "ann"))
        self.assertEqual(self.days(minds, "ann"), [1, 2, 3, 4])
        self.assertEqual(self.days(minds, "bob"), [1, 2, 3, 4, 5])
        self.assertEqual(self.days(minds, "bob", (4, 9)), [1, 2, 3])

    def test_moments_of_one_day(self):
        minds = Minds()
        minds.tell((1, 1), "bob", [])
        minds.tell((1, 3), "bob", [])
        minds.tell((1, 2), "ann", [("take", "bob")])
        self.assertEqual(minds.line("ann"), [(1, 1), (1, 2)])
        minds.tell((2, 1), "cid", [("take", "bob")])
        self.assertEqual(minds.line("cid"), [(1, 1), (1, 3), (2, 1)])

    def test_a_long_row_of_takes(self):
        minds = Minds()
        for day in range(300):
            minds.tell((day, 1), "ab"[day % 2], [("take", "ba"[day % 2])])
        self.assertEqual(self.days(minds, "a"), list(range(299)))

    def test_told_in_any_order_and_dropped_again(self):
        pages = [(1, "bob", None), (2, "ann", "bob"), (3, "bob", "ann"), (4, "ann", None), (5, "cid", "bob")]
        chance = random.Random(17)
        for _ in range(20):
            chance.shuffle(pages)
            minds = self.minds_of(*pages, (6, "ann", "cid"), (0, "cid", None))
            minds.drop((6, 1))
            minds.drop((0, 1))
            self.assertEqual(
                [self.days(minds, mind) for mind in ("ann", "bob", "cid")], [[1, 2, 4], [1, 2, 3], [1, 2, 3, 5]])


if __name__ == "__main__":
    unittest.main()
