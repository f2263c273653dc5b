import random
import unittest

from houses import A, B, C, F, H, house_of, some_house_records
from kindnames.called import called
from kindnames.errors import NoNode, Unread
from kindnames.house import House
from kindnames.printed import printed, read_printed, shows_printed
from kindnames.rightpapers import right_paper
from things import Agreeing, Angry, refusal, strange

BIG = 10 ** 12

# Ann has s, t in A and u, v in B, both in a family; w lies alone in C.
RECORDS = [
    ("page", (0, 1), "ann", (("put", ("s", "t"), A), ("put", ("u", "v"), B), ("put", ("w",), C), ("move", A, F), ("move", B, F))),
    ("name", (1, 1), 0, ("rosa", "far"), ("w", "s"), None),
    ("name", (1, 2), 0, ("rosa", "old"), ("s",), None),
    ("name", (1, 3), 0, ("rosa", "alba"), ("u",), None),
    ("name", (1, 4), 0, ("rosa", "back"), ("s",), None),
    ("name", (1, 5), 0, ("rosa", "old"), ("t",), None),
    ("name", (1, 6), 0, ("nova", "alba"), ("t",), None),
    ("name", (1, 7), 0, ("rosa", "fit"), ("s", "t"), None),
    ("name", (1, 8), 0, ("rosa", "last"), ("t",), None),
    ("name", (2, 1), 1, ("rosa",), (), (1, 2)),
    ("strike", (3, 1), (1, 2), False),
    ("ahead", (4, 1), (1, 7), (1, 4)),
    ("ahead", (4, 2), (1, 3), (1, 7)),
]

TEXT = "\n".join([
    "kind a of ann up to 9.0", "called rosa fit", "right 1.7", "1.1 elsewhere w", "1.2 struck 3.1", "1.3 elsewhere u",
    "1.4 gives way 4.1", "1.5 taken 1.2", "1.6 barred 1.3"])


class Printed(unittest.TestCase):
    def test_called_with_all_sorts_of_rows(self):
        house = house_of(RECORDS)
        self.assertEqual(printed(house, "ann", A, upto=(9, 0)), TEXT)
        self.assertEqual(printed(house=house, mind="ann", node=A, upto=(9, 0)), TEXT)

    def test_with_no_right_name(self):
        house = house_of(RECORDS)
        self.assertEqual(printed(house, "ann", C, upto=(BIG + 1, BIG + 1)), "\n".join([
            "kind c of ann up to 1000000000001.1000000000001", "not called", "none right", "1.1 elsewhere s", "1.2 elsewhere s",
            "1.3 elsewhere u", "1.4 elsewhere s", "1.5 elsewhere t", "1.6 elsewhere t", "1.7 elsewhere s", "1.8 elsewhere t"]))

    def test_right_and_not_called(self):
        house = house_of(RECORDS)
        self.assertEqual(printed(house, "ann", A, upto=(1, 2)), "\n".join([
            "kind a of ann up to 1.2", "not called", "right 1.2", "1.1 elsewhere w"]))
        house.page((8, 1), "ann", [("move", A, None)])
        self.assertEqual(printed(house, "ann", A, upto=(9, 0)).split("\n")[:3], ["kind a of ann up to 9.0", "not called", "right 1.6"])

    def test_without_rows(self):
        house = house_of(RECORDS)
        self.assertEqual(printed(house, "ann", A, upto=(0, 1)), "kind a of ann up to 0.1\nnot called\nnone right")
        self.assertEqual(printed(house_of(RECORDS[:1] + RECORDS[2:3]), "ann", A, upto=(9, 0)),
                         "kind a of ann up to 9.0\nnot called\nright 1.2")

    def test_no_node(self):
        house = house_of(RECORDS)
        for node, pair in [((0, "d"), (9, 0)), (A, (0, 0)), (H, (9, 0)), (F, (9, 0))]:
            self.assertEqual(refusal(self, NoNode, printed, house, "ann", node, upto=pair).node, node)
        self.assertEqual(refusal(self, NoNode, printed, house, "bob", A, upto=(9, 0)).node, A)
        for thing in strange() + [Agreeing(), Angry()]:
            self.assertIs(refusal(self, NoNode, printed, house, "ann", thing, upto=(9, 0)).node, thing)

    def test_nothing_is_changed(self):
        house = house_of(RECORDS)
        printed(house, "ann", A, upto=(9, 0))
        shows_printed(house, TEXT)
        self.assertEqual(house.records(), RECORDS)


class Read(unittest.TestCase):
    def test_read_back(self):
        want = ("ann", (9, 0), A, ("rosa", "fit"), ("right", (1, 7), [
            ((1, 1), "elsewhere", "w"), ((1, 2), "struck", (3, 1)), ((1, 3), "elsewhere", "u"), ((1, 4), "gives way", (4, 1)),
            ((1, 5), "taken", (1, 2)), ((1, 6), "barred", (1, 3))]))
        told = read_printed(TEXT)
        self.assertEqual(told, want)
        self.assertEqual(read_printed(text=TEXT), want)
        self.assertEqual([type(part) for part in told], [str, tuple, tuple, tuple, tuple])
        self.assertEqual([type(part) for part in told[4]], [str, tuple, list])
        told[4][2].clear()
        self.assertEqual(read_printed(TEXT), want)

    def test_of_few_rows(self):
        self.assertEqual(read_printed("kind a of ann up to 0.0\nnot called\nnone right"), ("ann", (0, 0), A, None, ("none", [])))
        self.assertEqual(read_printed("kind a of ann up to 0.0\ncalled a b\nnone right"), ("ann", (0, 0), A, ("a", "b"), ("none", [])))
        self.assertEqual(read_printed("kind a of ann up to 0.0\nnot called\nright 1.1"), ("ann", (0, 0), A, None, ("right", (1, 1), [])))

    def test_whether_a_row_is_so_is_not_asked(self):
        rows = ["kind of of of up to 1000000000001.1000000000001", "called not called", "none right", "0.1 gives way 0.1",
                "0.2 elsewhere elsewhere", "1.1 struck 9.9", "1000000000000.1000000000000 taken 0.1"]
        self.assertEqual(read_printed("\n".join(rows)), ("of", (BIG + 1, BIG + 1), (0, "of"), ("not", "called"), ("none", [
            ((0, 1), "gives way", (0, 1)), ((0, 2), "elsewhere", "elsewhere"), ((1, 1), "struck", (9, 9)),
            ((BIG, BIG), "taken", (0, 1))])))
        self.assertEqual(read_printed("kind a of b up to 1.1\nnot called\nright 1.1\n1.1 barred 1.1")[4], (
            "right", (1, 1), [((1, 1), "barred", (1, 1))]))

    def test_the_first_row_that_cannot_stand_there(self):
        rows = TEXT.split("\n")
        bad = {
            0: ["kind a of ann up to 9.0 ", "kind a of ann up to 9", "kind a of ann up to", "kind a of ann up to 09.0", "kind A of ann up to 9.0",
                "kind a of Ann up to 9.0", "kind a ann up to 9.0", "family a of ann up to 9.0", "kind a of ann until 9.0", "a of ann up to 9.0",
                "kind a of ann up to 1000000000002.0", "kind a of ann up to 9.0 x", "kind  a of ann up to 9.0", "kind a of ann up by 9.0",
                "kind a of ann on to 9.0", "kind a in ann up to 9.0", "kind a of ann up to -1.0", "0 a of ann up to 9.0", "kind a of ann up to any"],
            1: ["called", "called rosa", "called rosa fit x", "called Rosa fit", "called rosa Fit", "called rosa fit ", "Called rosa fit", "not",
                "not  called", "not called ", "none called", "called  rosa fit", "not called rosa", "rosa fit", "called rosa fit8"],
            2: ["right", "right 1.0", "right 01.7", "right 1.7 ", "right 1.7 1.7", "Right 1.7", "right none", "none", "none right ", "none  right",
                "not right", "right rosa", "right 1000000000001.1", "left 1.7"],
            3: ["1.0 elsewhere w", "01.1 elsewhere w", "1.1 elsewhere W", "1.1 elsewhere", "1.1 elsewhere w x", "1.1 elsewhere 1.2",
                "1.1 struck w", "1.1 struck", "1.1 struck 3.0", "1.1 struck 3.1 3.1", "1.1 taken w", "1.1 taken 1.0", "1.1 barred w", "1.1 barred",
                "1.1 gives 4.1", "1.1 gives way", "1.1 gives way w", "1.1 gives  way 4.1", "1.1 gives way 4.1 4.2", "1.1 younger 1.7", "1.1 w",
                "1.1 right 1.7", "1.1", "elsewhere w", "w elsewhere 1.1", "1.1  elsewhere w", "1.1 elsewhere  w", "1.1 Elsewhere w", "1.1  4.1",
                "1.1 elsewhere w\t"],
        }
        for at, others in bad.items():
            for row in others + ["", " ", "\t"] + rows[:at] + rows[at + 1:3]:
                for rest in [rows[at + 1:], [], ["worse"]]:
                    text = "\n".join(rows[:at] + [row] + rest)
                    self.assertEqual(refusal(self, Unread, read_printed, text).row, row, text)
        # Behind the third row each may stand where its name is greater.
        for at in range(3, len(rows)):
            for row in rows[:at + 1] + [""]:
                text = "\n".join(rows[:at + 1] + [row] + rows[at + 1:])
                self.assertEqual(refusal(self, Unread, read_printed, text).row, row)

    def test_names_that_do_not_rise(self):
        head = "kind a of ann up to 9.0\nnot called\nnone right\n"
        for rows, bad in [(["1.2 struck 2.1", "1.2 struck 2.1"], 1), (["1.2 struck 2.1", "1.1 struck 2.1"], 1), (["2.1 taken 1.1", "1.9 taken 1.1"], 1),
                          (["1.1 taken 0.1", "1.2 taken 0.1", "1.2 barred 0.1", "x"], 2), (["10.1 taken 1.1", "9.1 taken 1.1"], 1)]:
            self.assertEqual(refusal(self, Unread, read_printed, head + "\n".join(rows)).row, rows[bad])
        self.assertEqual(len(read_printed(head + "9.1 taken 1.1\n9.10 taken 1.1\n10.1 taken 1.1")[4][1]), 3)

    def test_a_text_that_ends_ahead_of_its_third_row(self):
        rows = TEXT.split("\n")
        for many in (1, 2):
            self.assertEqual(refusal(self, Unread, read_printed, "\n".join(rows[:many])).row, "")
            self.assertEqual(refusal(self, Unread, read_printed, "\n".join(rows[:many]) + "\n").row, "")
        self.assertEqual(refusal(self, Unread, read_printed, "").row, "")
        self.assertEqual(refusal(self, Unread, read_printed, TEXT + "\n").row, "")

    def test_what_is_no_text(self):
        for thing in strange() + [Agreeing(), Angry(), TEXT.encode(), [TEXT], TEXT.split("\n"), House()]:
            told = refusal(self, Unread, read_printed, thing)
            if not isinstance(thing, str):
                self.assertIs(told.row, thing)


class Shows(unittest.TestCase):
    def test_true_texts(self):
        house = house_of(RECORDS)
        for node in [A, B, C]:
            for pair in [(0, 1), (1, 2), (1, 9), (3, 1), (9, 0), (BIG + 1, 0)]:
                self.assertIs(shows_printed(house, printed(house, "ann", node, upto=pair)), True)
        self.assertIs(shows_printed(house=house, text=TEXT), True)

    def test_any_reason_by_which_it_is_so(self):
        house = house_of(RECORDS)
        house.strike((5, 1), (1, 2), whole=False)
        house.strike((5, 2), (1, 1))
        for one, other in [("1.2 struck 3.1", "1.2 struck 5.1"), ("1.1 elsewhere w", "1.1 struck 5.2")]:
            self.assertIs(shows_printed(house, TEXT.replace(one, other)), True)
        self.assertIs(shows_printed(house_of(RECORDS), TEXT.replace("1.2 struck 3.1", "1.2 struck 5.1")), False)

    def test_no_more_behind_a_further_entry(self):
        for further in [("strike", (8, 1), (1, 7), False), ("strike", (2, 2), (2, 1), True), ("page", (8, 1), "ann", (("out", ("s",)),)),
                        ("ahead", (8, 1), (1, 8), (1, 7)), ("choice", (8, 1), (1, 1), "s"), ("page", (8, 1), "ann", (("move", A, None),)),
                        ("page", (8, 1), "ann", (("join", A, B),)),
                        # A name ahead of all, of which the text has no row.
                        ("name", (0, 2), 0, ("rosa", "first"), ("w",), None)]:
            house = house_of(RECORDS)
            house.tell(further)
            self.assertIs(shows_printed(house, TEXT), False, further)
        house = house_of(RECORDS)
        # Entries behind its pair, and those that change nothing.
        house.strike((9, 1), (1, 7))
        house.say((8, 1), "cat", ("ann", (9, 0), A), ("bob", (9, 0), A), both=False)
        house.page((8, 2), "bob", [("take", "ann"), ("out", ["s"])])
        self.assertIs(shows_printed(house, TEXT), True)
        house.drop((4, 1))
        self.assertIs(shows_printed(house, TEXT), False)

    def test_rows_away_twice_and_turned_about(self):
        house, rows = house_of(RECORDS), TEXT.split("\n")
        for at in range(len(rows)):
            self.assertIs(shows_printed(house, "\n".join(rows[:at] + rows[at + 1:])), False)
            self.assertIs(shows_printed(house, "\n".join(rows[:at + 1] + rows[at:])), False)
            if at:
                self.assertIs(shows_printed(house, "\n".join(rows[:at - 1] + [rows[at], rows[at - 1]] + rows[at + 1:])), False)

    def test_something_otherwise(self):
        house = house_of(RECORDS)
        for one, other in [("kind a", "kind b"), ("kind a", "kind d"), ("of ann", "of bob"), ("9.0", "2.9"), ("9.0", "4.0"), ("9.0", "0.1"),
                           ("called rosa fit", "called rosa last"), ("called rosa fit", "not called"), ("called rosa fit", "called nova fit"),
                           ("right 1.7", "right 1.8"), ("right 1.7", "right 1.4"), ("right 1.7", "none right"), ("1.1 elsewhere w", "1.1 elsewhere s"),
                           ("1.1 elsewhere w", "1.1 struck 3.1"), ("3.1", "4.1"), ("1.3 elsewhere u", "1.3 elsewhere v"), ("1.5 taken 1.2", "1.5 taken 1.4"),
                           ("1.6 barred 1.3", "1.6 barred 1.2"), ("way 4.1", "way 4.2"), ("1.6 barred 1.3", "1.7 barred 1.3"),
                           ("1.6 barred 1.3", "1.6 barred 1.3\n1.8 elsewhere u"), ("1.4 gives way 4.1", "1.4 taken 1.2")]:
            text = TEXT.replace(one, other)
            self.assertNotEqual(text, TEXT)
            self.assertIs(shows_printed(house, text), False, text)
        self.assertIs(shows_printed(House(), TEXT), False)

    def test_of_anything(self):
        house = house_of(RECORDS)
        for thing in strange() + [Agreeing(), Angry(), TEXT.encode(), [TEXT], TEXT.split("\n"), read_printed(TEXT), house,
                                  TEXT + "\n", " " + TEXT, TEXT + " "]:
            self.assertIs(shows_printed(house, thing), False)

    def test_held_beside_the_paper(self):
        chance = random.Random(161)
        seen = {True: 0, False: 0}
        for _ in range(80):
            records = some_house_records(chance)
            house, pair = house_of(records), (chance.randrange(1, 5), chance.randrange(30))
            tree = house.tree("ann", upto=pair)
            for node in tree.nodes(rank=0):
                text = printed(house, "ann", node, upto=pair)
                words = called(house.book(), tree, node, upto=pair)
                paper = right_paper(house.book(), tree, node, upto=pair)
                self.assertEqual(read_printed(text), ("ann", pair, node, words, paper))
                self.assertIs(shows_printed(house, text), True)
                self.assertEqual(text.count("\n"), 2 + len(paper[-1]))
                # A house told no more than up to the pair tells the same.
                self.assertIs(shows_printed(house_of(house.records(upto=pair)), text), True)
                less = house_of(records[:chance.randrange(len(records))])
                want = node in less.tree("ann", upto=pair).nodes() and printed(less, "ann", node, upto=pair) == text
                seen[want] += 1
                if want:
                    self.assertIs(shows_printed(less, text), True)
                elif node not in less.tree("ann", upto=pair).nodes():
                    self.assertIs(shows_printed(less, text), False)
        self.assertGreater(min(seen.values()), 15)


if __name__ == "__main__":
    unittest.main()
