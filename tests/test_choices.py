import random
import unittest

from kindnames.choices import may_be_right, must_be_right, right_by, shows_may, shows_must
from kindnames.errors import NoName, NoNode, Unfit
from kindnames.trees import Tree
from slow_right import names, some_tree
from slow_wanted import every_choice, slow_bases, slow_look_may, slow_look_must, slow_right_by, some_choosy_records
from things import book_of, refusal, shuffled_book, strange

A, B, C = (0, "a"), (0, "b"), (0, "c")
F, H = (1, "f"), (2, "h")

TREE = Tree({A: ["s", "t"], B: ["u", "v"], C: ["w"]}, {A: F, B: F, F: H})


def day(number):
    return (number, 1)


def pushing_book():
    """(6, 1) wanted in A: 2 bars it, so the base 1 is out; so 3 is loose, and out; so 5 is loose, and stays."""
    book = names(("x two", "uw"), ("y one", 1), ("z two", "sw"), ("y three", 3), ("z three", "s"), ("w one", "s"))
    book.strike((8, 1), (4, 1))
    return book


class RightBy(unittest.TestCase):
    def test_by_a_choice_alone(self):
        book = names(("x one", "sw"), ("x two", "st"), ("x three", 1))
        self.assertEqual(right_by(book, TREE, A, {day(1): "s", day(2): "t"}), day(1))
        self.assertEqual(right_by(book, TREE, A, {day(1): "w", day(2): "t"}), day(2))
        self.assertEqual(right_by(book, TREE, C, {day(1): "w", day(2): "t"}), day(1))
        book.strike(day(5), day(1))
        self.assertEqual(right_by(book, TREE, A, {day(1): "s", day(2): "t"}), day(2))
        book.strike(day(6), day(2))
        self.assertEqual(right_by(book, TREE, A, {day(1): "s", day(2): "t"}), day(3))
        self.assertIsNone(right_by(book, TREE, A, {day(1): "w", day(2): "t"}))
        self.assertEqual(right_by(book, TREE, A, {day(1): "s"}, upto=day(1)), day(1))

    def test_aheads_play_no_part(self):
        book = names(("x one", "s"), ("x two", "s"))
        book.ahead(day(5), day(2), day(1))
        self.assertEqual(right_by(book, TREE, A, {day(1): "s", day(2): "s"}), day(1))
        self.assertEqual(may_be_right(book, TREE, A, day(1)), ("may", {day(1): "s", day(2): "s"}))
        self.assertEqual(must_be_right(book, TREE, A, day(1)), ("must", []))
        self.assertEqual(may_be_right(book, TREE, A, day(2)), ("never", "elder", day(1), []))

    def test_taken_and_barred(self):
        book = names(("x one", "uw"), ("y one", "s"), ("x one", "s"), ("x two", "s"))
        self.assertEqual(right_by(book, TREE, A, {day(1): "w", day(2): "s", day(3): "s", day(4): "s"}), day(2))
        self.assertEqual(right_by(book, TREE, A, {day(1): "u", day(2): "s", day(3): "s", day(4): "s"}), day(4))

    def test_other_ranks(self):
        book = names(("x one", "sw"), ("y one", "u"))
        book.publish(day(3), ("x",), rank=1, like=day(1))
        book.publish(day(4), ("y",), rank=1, like=day(2))
        self.assertEqual(right_by(book, TREE, F, {day(1): "s", day(2): "u"}), day(3))
        self.assertEqual(right_by(book, TREE, F, {day(1): "w", day(2): "u"}), day(4))
        self.assertIsNone(right_by(book, TREE, H, {day(1): "w", day(2): "u"}))

    def test_no_node_ahead_of_all(self):
        book = names(("x one", "s"))
        for choice in [{}, {day(1): "s"}, None, 5]:
            self.assertEqual(refusal(self, NoNode, right_by, book, TREE, (0, "z"), choice).node, (0, "z"))
        for thing in strange():
            self.assertIs(refusal(self, NoNode, right_by, book, TREE, thing, {}).node, thing)

    def test_by_names_and_not_changed(self):
        book, choice = names(("x one", "sw")), {day(1): "s"}
        self.assertEqual(right_by(book=book, tree=TREE, node=A, choice=choice, upto=None), day(1))
        self.assertEqual(choice, {day(1): "s"})


class May(unittest.TestCase):
    def told(self, book, name, node=A, tree=TREE, upto=None):
        paper = may_be_right(book, tree, node, name, upto=upto)
        self.assertIs(shows_may(book, tree, node, name, paper, upto=upto), True)
        by = [choice for choice in every_choice(book, upto) if slow_right_by(book, tree, node, choice, upto) == name]
        self.assertEqual(paper[0] == "may", bool(by))
        if paper[0] == "may":
            self.assertIn(paper[1], by)
        return paper

    def test_elsewhere_struck_taken(self):
        book = names(("x one", "uw"), ("x one", "u"), ("y two", "s"), ("y two", "st"))
        for moment in [(8, 1), (8, 2)]:
            book.strike(moment, day(2))
        book.strike((9, 1), day(4))
        self.assertEqual(self.told(book, day(1)), ("never", "elsewhere", None, []))
        self.assertEqual(self.told(book, day(2)), ("never", "elsewhere", None, []))
        self.assertEqual(self.told(book, day(2), B), ("never", "struck", (8, 1), []))
        self.assertEqual(self.told(book, day(2), B, upto=(7, 1)), ("never", "taken", day(1), []))
        self.assertEqual(self.told(book, day(4)), ("never", "struck", (9, 1), []))
        self.assertEqual(self.told(book, day(4), upto=(8, 9)), ("never", "taken", day(3), []))
        book.strike((9, 2), day(3), whole=True)
        book.drop((9, 1))
        self.assertEqual(self.told(book, day(4))[0], "may")

    def test_a_chosen_sheet_bears_all_names_of_its_base(self):
        book = names(("x one", "sw"), ("x two", 1), ("y three", "s"))
        book.strike(day(5), day(1))
        self.assertEqual(self.told(book, day(2))[1][day(1)], "s")
        book.choose(day(6), day(1), "w")
        self.assertEqual(self.told(book, day(2)), ("never", "elsewhere", None, []))
        self.assertEqual(self.told(book, day(3)), ("may", {day(1): "w", day(3): "s"}))

    def test_barred(self):
        # By a base of which all bearers are in the family.
        book = names(("x one", "uw"), ("y one", "uv"), ("z one", "u"), ("w one", "s"))
        self.assertEqual(self.told(book, day(4)), ("never", "barred", day(2), []))
        book.strike(day(6), day(2), whole=True)
        self.assertEqual(self.told(book, day(4)), ("never", "barred", day(3), []))
        book.strike(day(7), day(3))
        self.assertEqual(self.told(book, day(4)), ("never", "barred", day(3), []))
        book.strike(day(8), day(3), whole=True)
        self.assertEqual(self.told(book, day(4)), ("may", {day(1): "w", day(2): "u", day(3): "u", day(4): "s"}))

    def test_barred_by_the_own_base(self):
        book = names(("x one", "sw"), ("y one", 1))
        self.assertEqual(self.told(book, day(2)), ("never", "barred", day(1), []))
        self.assertEqual(self.told(book, day(1))[0], "may")

    def test_elder_that_stays(self):
        book = names(("x one", "st"), ("x two", "s"))
        self.assertEqual(self.told(book, day(2)), ("never", "elder", day(1), []))
        book = names(("x one", "sw"), ("x two", 1))
        self.assertEqual(self.told(book, day(2)), ("never", "elder", day(1), []))
        book = names(("x one", "sw"), ("x two", "sw"))
        self.assertEqual(self.told(book, day(2)), ("may", {day(1): "w", day(2): "s"}))

    def test_elder_by_rows(self):
        book = pushing_book()
        rows = [(day(1), "bars", day(2)), (day(3), "elder", day(3))]
        self.assertEqual(self.told(book, day(6)), ("never", "elder", day(5), rows))
        # One sheet more of the base in the family and not in the node, and the elder one need not be out.
        other = names(("x two", "uw"), ("y one", 1), ("z two", "suw"), ("y three", 3), ("z three", "s"), ("w one", "s"))
        other.strike((8, 1), day(4))
        self.assertEqual(self.told(other, day(6))[0], "may")
        # Without what bars the wanted one nothing is out.
        book.strike((9, 1), day(2), whole=True)
        self.assertEqual(self.told(book, day(6))[0], "may")

    def test_whys_ahead_of_each_other(self):
        book = names(("y two", "u"), ("v nine", "s"), ("x one", "u"), ("y two", "s"))
        self.assertEqual(self.told(book, day(4)), ("never", "taken", day(1), []))
        book.strike((9, 1), day(4))
        self.assertEqual(self.told(book, day(4)), ("never", "struck", (9, 1), []))
        book.choose((9, 2), day(4), "s")
        self.assertEqual(self.told(book, day(4), C), ("never", "elsewhere", None, []))
        book.drop((9, 1))
        book.drop((9, 2))
        book.strike((9, 1), day(1), whole=True)
        self.assertEqual(self.told(book, day(4)), ("never", "elder", day(2), []))
        book.publish((2, 2), ("z", "two"), sheets=["u"])
        self.assertEqual(self.told(book, day(4)), ("never", "barred", (2, 2), []))

    def test_no_bars_without_a_family_or_of_other_ranks(self):
        tree = Tree({A: ["s", "t"], B: ["u", "v"], C: ["w"]}, {A: H, B: H})
        book = names(("x one", "u"), ("y one", "s"), ("z one", "sw"), ("v one", "t"))
        self.assertEqual(self.told(book, day(2), tree=tree)[0], "may")
        self.assertEqual(self.told(book, day(4), tree=tree), ("never", "elder", day(2), []))
        self.assertEqual(self.told(book, day(2)), ("never", "barred", day(1), []))
        book.publish(day(6), ("x",), rank=1, like=day(3))
        book.publish(day(7), ("y",), rank=1, like=day(2))
        self.assertEqual(self.told(book, day(7), F)[0], "may")
        self.assertEqual(self.told(book, day(7), F)[1][day(3)], "w")
        book.choose(day(8), day(3), "s")
        self.assertEqual(self.told(book, day(7), F), ("never", "elder", day(6), []))

    def look(self, book, name, paper, node=A, tree=TREE):
        told = shows_may(book, tree, node, name, paper)
        self.assertIs(told, slow_look_may(book, tree, node, name, paper))
        return told

    def test_each_why_by_itself_by_any_thing(self):
        book = names(("x one", "u"), ("x one", "v"), ("y one", "t"), ("x one", "w"), ("w two", "s"), ("x one", 4))
        for moment in [(8, 1), (8, 2), (8, 3)]:
            book.strike(moment, day(4))
        for name in [1, 2]:
            self.assertIs(self.look(book, day(4), ("never", "taken", day(name), [])), True)
            self.assertIs(self.look(book, day(3), ("never", "taken", day(name), [])), False)
            self.assertIs(self.look(book, day(3), ("never", "barred", day(name), [])), True)
        for moment in [(8, 1), (8, 2), (8, 3)]:
            self.assertIs(self.look(book, day(4), ("never", "struck", moment, [])), True)
            self.assertIs(self.look(book, day(4), ("never", "struck", moment, ())), True)
            self.assertIs(self.look(book, day(6), ("never", "struck", moment, [])), False)
        self.assertIs(self.look(book, day(4), ("never", "elsewhere", None, [])), True)
        self.assertIs(self.look(book, day(4), ("never", "barred", day(3), [])), True)
        # Of the same base, though none of its bearers is in the family.
        self.assertIs(self.look(book, day(6), ("never", "barred", day(4), [])), True)
        self.assertIs(self.look(book, day(5), ("never", "elsewhere", None, [])), False)
        self.assertIs(self.look(book, day(5), ("never", "elder", day(3), [])), False)
        book.strike((9, 1), day(1), whole=True)
        book.strike((9, 2), day(2), whole=True)
        self.assertIs(self.look(book, day(5), ("never", "elder", day(3), [])), True)
        self.assertIs(self.look(book, day(4), ("never", "taken", day(1), [])), False)

    def test_rows_otherwise(self):
        book, rows = pushing_book(), [(day(1), "bars", day(2)), (day(3), "elder", day(3))]
        self.assertIs(self.look(book, day(6), ("never", "elder", day(5), rows)), True)
        self.assertIs(self.look(book, day(6), ("never", "elder", day(5), tuple(rows))), True)
        for other in [
                [], rows[:1], rows[1:], rows[::-1], rows + rows[:1], rows + rows[1:], [rows[0], rows[0], rows[1]],
                [(day(1), "bars", day(1)), rows[1]], [(day(1), "elder", day(2)), rows[1]], [(day(2), "bars", day(2)), rows[1]],
                [(day(1), "bars", day(6)), rows[1]], [rows[0], (day(3), "bars", day(3))], [rows[0], (day(3), "elder", day(4))],
                [rows[0], (day(3), "elder", day(5))], [rows[0], (day(6), "elder", day(3))], rows + [(day(6), "elder", day(5))],
                rows + [(day(5), "elder", day(6))]]:
            with self.subTest(rows=other):
                self.assertIs(self.look(book, day(6), ("never", "elder", day(5), other)), False)
        for name in [1, 2, 3, 4, 6]:
            self.assertIs(self.look(book, day(6), ("never", "elder", day(name), rows)), False)
        # A row more of a base that is so is let.
        more = rows + [(day(5), "elder", day(5))]
        self.assertIs(self.look(book, day(6), ("never", "elder", day(5), more)), True)
        for paper in [("never", "elder", day(5)), ["never", "elder", day(5), rows], ("never", "elder", day(5), rows, rows),
                      ("never", "elder", list(day(5)), rows), ("never", "elder", (5, True), rows), ("never", b"elder", day(5), rows),
                      ("Never", "elder", day(5), rows), ("never", "elder", day(5), dict.fromkeys(rows)),
                      ("never", "elder", day(5), [list(rows[0]), rows[1]]), ("never", "elder", day(5), [rows[0][:2], rows[1]]),
                      ("never", "elder", day(5), [(list(day(1)), "bars", day(2)), rows[1]]),
                      ("never", "elder", day(5), [((1, True), "bars", day(2)), rows[1]]),
                      ("never", "elder", day(5), [(day(1), "bars", (2, True)), rows[1]]), ("never", "elder", None, rows)]:
            with self.subTest(paper=paper):
                self.assertIs(shows_may(book, TREE, A, day(6), paper), False)

    def test_no_row_of_the_wanted_base(self):
        book = names(("x one", "sw"), ("z three", "s"), ("w one", 1))
        self.assertIs(self.look(book, day(3), ("never", "elder", day(2), [])), True)
        self.assertIs(self.look(book, day(3), ("never", "elder", day(2), [(day(1), "bars", day(1))])), False)
        self.assertIs(self.look(book, day(3), ("never", "elder", day(2), [(day(1), "elder", day(1))])), False)

    def test_barred_by_the_own_or_the_wanted_base_whatever_the_rows(self):
        # (2, 1) and (3, 1) are of one base, all of whose bearers are in the node.
        book = names(("x two", "s"), ("y three", 1), ("z three", 1), ("w nine", "t"))
        rows = [(day(1), "elder", day(1))]
        self.assertIs(self.look(book, day(4), ("never", "elder", day(2), rows)), True)
        self.assertIs(self.look(book, day(4), ("never", "elder", day(3), rows)), False)
        # The wanted one has no bearer in the family; that is another why, and each is looked at by itself.
        book = names(("x two", "w"), ("y two", "s"), ("z two", 1))
        self.assertIs(self.look(book, day(3), ("never", "elder", day(2), [])), False)
        self.assertIs(self.look(book, day(3), ("never", "elder", day(1), [])), True)

    def test_no_rows_where_nobody_is_barred(self):
        tree = Tree({A: ["s", "t"], B: ["u", "v"], C: ["w"]}, {A: H, B: H})
        book = names(("x one", "sw"), ("x two", "s"), ("x three", "s"))
        self.assertIs(self.look(book, day(3), ("never", "elder", day(2), []), tree=tree), True)
        self.assertIs(self.look(book, day(3), ("never", "elder", day(2), [(day(1), "elder", day(1))]), tree=tree), False)
        self.assertIs(self.look(book, day(3), ("never", "elder", day(2), [(day(1), "elder", day(1))])), True)
        self.assertIs(self.look(book, day(3), ("never", "barred", day(2), []), tree=tree), False)

    def test_choices_otherwise(self):
        book = names(("x one", "sw"), ("x two", "sw"), ("x three", 1))
        self.assertIs(self.look(book, day(2), ("may", {day(1): "w", day(2): "s"})), True)
        for choice in [{day(1): "s", day(2): "s"}, {day(1): "w", day(2): "w"}, {day(1): "w"}, {day(2): "s"}, {},
                       {day(1): "w", day(2): "t"}, {day(1): "w", day(2): "s", day(3): "s"}, {day(1): "w", day(3): "s"},
                       {day(1): "w", day(2): "s", day(9): "s"}]:
            self.assertIs(self.look(book, day(2), ("may", choice)), False)
        for paper in [("may", {day(1): "w", day(2): ["s"]}), ("may", {day(1): "w", (2, True): "s"}), ("may", [(day(1), "w"), (day(2), "s")]),
                      ("may", {day(1): "w", day(2): None}), ["may", {day(1): "w", day(2): "s"}], ("may",), ("May", {day(1): "w", day(2): "s"}),
                      ("may", {day(1): "w", day(2): "s"}, []), ("must", {day(1): "w", day(2): "s"}), ("not", {day(1): "w", day(2): "s"}),
                      ("may", {(1.0, 1): "w", day(2): "s"}), ("may", {day(1): "w", day(2): b"s"})]:
            with self.subTest(paper=paper):
                self.assertIs(shows_may(book, TREE, A, day(2), paper), False)


class Must(unittest.TestCase):
    def told(self, book, name, node=A, tree=TREE, upto=None):
        paper = must_be_right(book, tree, node, name, upto=upto)
        self.assertIs(shows_must(book, tree, node, name, paper, upto=upto), True)
        against = [choice for choice in every_choice(book, upto) if slow_right_by(book, tree, node, choice, upto) != name]
        self.assertEqual(paper[0] == "not", bool(against))
        if paper[0] == "not":
            self.assertIn(paper[1], against)
        return paper

    def four_book(self):
        """1 elsewhere, 2 struck, 3 taken, 4 barred, 5 wanted."""
        book = names(("x one", "vw"), ("x two", "s"), ("x one", "sw"), ("y two", "uw"), ("x five", "st"))
        book.strike(day(8), day(2))
        return book

    def test_rows_with_each_of_the_four_reasons(self):
        rows = [(day(1), "elsewhere", None), (day(2), "struck", day(8)), (day(3), "taken", day(1))]
        book = self.four_book()
        self.assertEqual(self.told(book, day(5)), ("must", rows + [(day(4), "elsewhere", None)]))
        barred = names(("x one", "vw"), ("x two", "s"), ("x one", "sw"), ("y two", "sw"), ("x five", "st"))
        barred.strike(day(8), day(2))
        self.assertEqual(self.told(barred, day(5)), ("must", rows + [(day(4), "barred", day(2))]))

    def test_barred_by_the_own_base(self):
        book = names(("x one", "sw"), ("y one", 1), ("x two", "t"))
        book.strike(day(8), day(1))
        self.assertEqual(self.told(book, day(3)), ("must", [(day(1), "struck", day(8)), (day(2), "barred", day(1))]))
        tree = Tree({A: ["s", "t"], C: ["w"]}, {A: H})
        self.assertEqual(self.told(book, day(3), tree=tree)[0], "not")

    def test_not(self):
        book = names(("x one", "sw"), ("x two", "st"), ("x three", "s"), ("y two", "s"), ("x two", "s"))
        self.assertEqual(self.told(book, day(1))[1][day(1)], "w")
        self.assertEqual(self.told(book, day(2))[1][day(1)], "s")
        for name in [3, 4, 5]:
            self.assertEqual(self.told(book, day(name))[0], "not")
        book.strike(day(8), day(1))
        self.assertEqual(self.told(book, day(2)), ("must", [(day(1), "struck", day(8))]))
        book.strike(day(9), day(2))
        self.assertEqual(self.told(book, day(2))[0], "not")
        self.assertEqual(self.told(book, day(2), upto=day(8))[0], "must")
        self.assertEqual(self.told(book, day(3))[0], "must")

    def test_not_by_a_bar_that_may_be_in_the_family(self):
        book = names(("y one", "uw"), ("x one", "st"), ("x two", "s"))
        self.assertEqual(self.told(book, day(2))[1][day(1)], "u")
        self.assertEqual(self.told(book, day(3))[1][day(1)], "w")
        tree = Tree({A: ["s", "t"], B: ["u"], C: ["w"]})
        self.assertEqual(self.told(book, day(2), tree=tree), ("must", [(day(1), "elsewhere", None)]))

    def test_other_ranks(self):
        book = names(("x one", "s"), ("y one", "w"))
        book.publish(day(3), ("x",), rank=1, like=day(2))
        book.publish(day(4), ("y",), rank=1, like=day(1))
        self.assertEqual(self.told(book, day(4), F), ("must", [(day(3), "elsewhere", None)]))
        self.assertEqual(self.told(book, day(3), F)[0], "not")

    def look(self, book, name, paper, node=A, tree=TREE):
        told = shows_must(book, tree, node, name, paper)
        self.assertIs(told, slow_look_must(book, tree, node, name, paper))
        return told

    def test_rows_otherwise(self):
        book = self.four_book()
        book.strike((8, 2), day(2))
        rows = must_be_right(book, TREE, A, day(5))[1]
        for at, row, let in [
                (1, (day(2), "struck", (8, 2)), True), (1, (day(2), "struck", (8, 3)), False), (1, (day(2), "struck", day(2)), False),
                (0, (day(1), "elsewhere", "v"), False), (0, (day(1), "struck", day(8)), False), (2, (day(3), "taken", day(2)), False),
                (2, (day(3), "barred", day(1)), False), (2, (day(3), "elsewhere", None), False), (2, (day(4), "taken", day(1)), False),
                (3, (day(4), "barred", day(2)), True), (3, (day(4), "barred", day(1)), False), (3, (day(4), "gives way", day(8)), False),
                (3, (day(4), "elsewhere", "u"), False), (0, (day(1), "Elsewhere", None), False)]:
            with self.subTest(row=row):
                self.assertIs(self.look(book, day(5), ("must", rows[:at] + [row] + rows[at + 1:])), let)
                self.assertIs(self.look(book, day(5), ("must", tuple(rows[:at] + [row] + rows[at + 1:]))), let)
        for other in [rows[1:], rows[:-1], rows[::-1], rows + rows[:1], rows[:1] + rows, [], rows + [(day(5), "elsewhere", None)]]:
            self.assertIs(self.look(book, day(5), ("must", other)), False)
        for paper in [["must", rows], ("must",), ("must", rows, rows), ("must", dict.fromkeys(rows)), ("Must", rows), ("may", rows),
                      ("must", [list(rows[0])] + rows[1:]), ("must", [((1, True), "elsewhere", None)] + rows[1:]), ("not", rows)]:
            self.assertIs(shows_must(book, TREE, A, day(5), paper), False)

    def test_must_is_not_let_by_where_it_is_not_so(self):
        book = names(("x one", "sw"), ("y two", "uw"), ("x two", "s"))
        book.strike(day(8), day(1))
        for name, rows in [(1, []), (3, [(day(1), "struck", day(8)), (day(2), "elsewhere", None)]), (2, [(day(1), "struck", day(8))])]:
            self.assertIs(self.look(book, day(name), ("must", rows)), False)

    def test_must_is_not_let_by_of_a_struck_or_a_taken_one(self):
        book = names(("x one", "w"), ("x one", "s"), ("x two", "s"))
        self.assertIs(self.look(book, day(2), ("must", [(day(1), "elsewhere", None)])), False)
        rows = [(day(1), "elsewhere", None), (day(2), "taken", day(1))]
        self.assertIs(self.look(book, day(3), ("must", rows)), True)
        book.strike(day(5), day(3))
        self.assertIs(self.look(book, day(3), ("must", rows)), False)

    def test_of_anything_in_the_rows(self):
        book = self.four_book()
        paper = must_be_right(book, TREE, A, day(5))
        for changed in things_instead(paper):
            told = shows_must(book, TREE, A, day(5), changed)
            self.assertIs(told, repr(changed) == repr(paper))

    def test_choices_otherwise(self):
        book = names(("x one", "sw"), ("x two", "st"))
        self.assertIs(self.look(book, day(2), ("not", {day(1): "s", day(2): "s"})), True)
        self.assertIs(self.look(book, day(2), ("not", {day(1): "s", day(2): "t"})), True)
        for choice in [{day(1): "w", day(2): "t"}, {day(1): "s"}, {}, {day(1): "s", day(2): "w"}, {day(1): "s", day(2): "t", day(3): "t"}]:
            self.assertIs(self.look(book, day(2), ("not", choice)), False)
        for paper in [["not", {day(1): "s", day(2): "s"}], ("not", {day(1): "s", (2, True): "s"}), ("not", [(day(1), "s"), (day(2), "s")]),
                      ("not", {day(1): "s", day(2): "s"}, None), ("not",), ("may", {day(1): "s", day(2): "s"})]:
            self.assertIs(shows_must(book, TREE, A, day(2), paper), False)


class Both(unittest.TestCase):
    def test_refused_in_order_whatever_the_paper(self):
        book = names(("x one", "s"))
        book.publish(day(2), ("x",), rank=1, like=day(1))
        for call, more in [(may_be_right, ()), (must_be_right, ()), (shows_may, (None,)), (shows_must, (None,)),
                           (shows_may, (("may", {day(1): "s"}),)), (shows_must, (("must", []),))]:
            for thing in strange() + [(0, "z"), (1, "a")]:
                self.assertIs(refusal(self, NoNode, call, book, TREE, thing, day(9), *more).node, thing)
            self.assertEqual(refusal(self, NoName, call, book, TREE, A, day(9), *more).moment, day(9))
            self.assertEqual(refusal(self, NoName, call, book, TREE, A, day(2), *more, upto=day(1)).moment, day(2))
            self.assertEqual(refusal(self, Unfit, call, book, TREE, A, day(2), *more).moment, day(2))
            self.assertEqual(refusal(self, Unfit, call, book, TREE, F, day(1), *more).moment, day(1))

    def test_of_anything(self):
        book = pushing_book()
        for call, make in [(shows_may, may_be_right), (shows_must, must_be_right)]:
            for name in [1, 3, 5, 6]:
                paper = make(book, TREE, A, day(name))
                for changed in things_instead(paper):
                    self.assertIsInstance(call(book, TREE, A, day(name), changed), bool)
                for thing in strange():
                    self.assertIs(call(book, TREE, A, day(name), thing), False)
                    self.assertIs(call(book, TREE, A, day(name), (*paper, thing)), False)

    def test_told_papers_may_be_changed_and_by_names(self):
        book = names(("x one", "s"), ("x two", "s"))
        first = may_be_right(book=book, tree=TREE, node=A, name=day(1), upto=None)
        first[1].clear()
        self.assertEqual(may_be_right(book, TREE, A, day(1)), ("may", {day(1): "s", day(2): "s"}))
        again = must_be_right(book=book, tree=TREE, node=A, name=day(1), upto=None)
        again[1].append(None)
        self.assertEqual(must_be_right(book, TREE, A, day(1)), ("must", []))
        self.assertIs(shows_may(book=book, tree=TREE, node=A, name=day(1), paper=first, upto=None), False)
        self.assertIs(shows_must(book=book, tree=TREE, node=A, name=day(1), paper=("must", ()), upto=None), True)


def things_instead(paper):
    """A paper with any strange thing in the place of any part."""
    for thing in strange():
        for at in range(len(paper)):
            yield paper[:at] + (thing,) + paper[at + 1:]
        last = paper[-1]
        if isinstance(last, dict):
            for base in last:
                yield (*paper[:-1], {**last, base: thing})
                try:
                    changed = {key: sheet for key, sheet in last.items() if key != base}
                    changed[thing] = last[base]
                    yield (*paper[:-1], changed)
                except Exception:
                    pass
        else:
            for at, row in enumerate(last):
                yield (*paper[:-1], last[:at] + [thing] + last[at + 1:])
                for part in range(3):
                    yield (*paper[:-1], last[:at] + [row[:part] + (thing,) + row[part + 1:]] + last[at + 1:])
            yield (*paper[:-1], last + [thing])


class AgainstTheSlowWay(unittest.TestCase):
    def test_held_beside_trying_every_choice(self):
        chance = random.Random(23)
        seen = {}
        for _ in range(160):
            records = some_choosy_records(chance)
            book, tree = shuffled_book(chance, records), some_tree(chance)
            for upto in [None, (1, 6)]:
                choices = list(every_choice(book, upto))
                for node in tree.nodes():
                    best = [slow_right_by(book, tree, node, choice, upto) for choice in choices]
                    for choice, told in zip(choices, best):
                        self.assertEqual(right_by(book, tree, node, choice, upto=upto), told)
                    for name in book.names(rank=node[0], upto=upto):
                        may = may_be_right(book, tree, node, name, upto=upto)
                        must = must_be_right(book, tree, node, name, upto=upto)
                        self.assertEqual(may[0], "may" if name in best else "never")
                        self.assertEqual(must[0], "must" if set(best) == {name} else "not")
                        self.assertTrue(slow_look_may(book, tree, node, name, may, upto))
                        self.assertTrue(slow_look_must(book, tree, node, name, must, upto))
                        self.assertIs(shows_may(book, tree, node, name, may, upto=upto), True)
                        self.assertIs(shows_must(book, tree, node, name, must, upto=upto), True)
                        if may[0] == "never":
                            self.first(book, tree, node, name, may, upto)
                        seen[may[:2] if may[0] == "never" else "may"] = True
                        seen[must[0]] = True
                        seen[may[0] == "never" and len(may[3])] = True
        for each in [("never", why) for why in ("elsewhere", "struck", "taken", "barred", "elder")] + ["may", "must", "not", 2]:
            self.assertIn(each, seen)

    def first(self, book, tree, node, name, paper, upto):
        """Whether the first of the whys that are so is told, with its first thing."""
        records = book.entries(upto=upto)
        for why in ["elsewhere", "struck", "taken", "barred"]:
            for thing in [None] + [record[1] for record in records]:
                if slow_look_may(book, tree, node, name, ("never", why, thing, []), upto):
                    self.assertEqual(paper, ("never", why, thing, []))
                    return
        self.assertEqual(paper[1], "elder")

    def test_changed_papers_are_let_by_just_where_they_are_such(self):
        chance = random.Random(230)
        seen = {}
        for _ in range(160):
            records = some_choosy_records(chance)
            book, tree = book_of(records), some_tree(chance)
            things = [record[1] for record in records] + [None]
            for node in tree.nodes():
                for name in book.names(rank=node[0]):
                    best = [slow_right_by(book, tree, node, choice) for choice in every_choice(book)]
                    for _ in range(6):
                        may = self.changed(chance, may_be_right(book, tree, node, name), book, things)
                        let = shows_may(book, tree, node, name, may)
                        self.assertIs(let, slow_look_may(book, tree, node, name, may))
                        if let:
                            self.assertEqual(may[0] == "may", name in best)
                        must = self.changed(chance, must_be_right(book, tree, node, name), book, things)
                        seen[("may", may[0], let)] = True
                        let = shows_must(book, tree, node, name, must)
                        self.assertIs(let, slow_look_must(book, tree, node, name, must))
                        if let:
                            self.assertEqual(must[0] == "must", set(best) == {name})
                        seen[("must", must[0], let)] = True
        self.assertEqual(len(seen), 8)

    def changed(self, chance, paper, book, things):
        last = paper[-1]
        if isinstance(last, dict):
            last = dict(last)
            base = chance.choice(slow_bases(book))
            sort = chance.choice(["sheet", "sheet", "out", "more", ""])
            if sort == "sheet":
                last[base] = chance.choice(list("stuvw"))
            if sort == "out":
                del last[base]
            if sort == "more":
                last[chance.choice([moment for moment in things if moment])] = chance.choice(list("stuvw"))
            return (*paper[:-1], last)
        rows = list(last)
        sort = chance.choice(["row", "row", "out", "twice", "order", "why", "add", "add"])
        at = chance.randrange(len(rows)) if rows else 0
        if sort == "row" and rows:
            part = chance.randrange(3)
            other = chance.choice(["bars", "elder", "struck", "taken", "barred", "elsewhere"]) if part == 1 else chance.choice(things)
            rows[at] = rows[at][:part] + (other,) + rows[at][part + 1:]
        if sort == "out" and rows:
            del rows[at]
        if sort == "twice" and rows:
            rows.insert(at, rows[at])
        if sort == "order":
            chance.shuffle(rows)
        if sort == "add":
            rows.insert(at, (chance.choice(things), chance.choice(["bars", "elder"]), chance.choice(things)))
        if sort == "why" and paper[0] == "never":
            return ("never", chance.choice(["elsewhere", "struck", "taken", "barred", "elder"]), chance.choice(things), rows)
        return (*paper[:-1], rows)


if __name__ == "__main__":
    unittest.main()
