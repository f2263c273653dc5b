import random
import unittest

from houses import A, B, F, H, RECORDS, house_of, named, some_house_records
from kindnames.errors import Later, NoName, NoSheet, SameMoment, Unfit, Unread
from kindnames.house import House
from kindnames.texts import read_house, read_record, show_house, show_record
from things import Agreeing, Angry, refusal, strange

BIG = 10 ** 12
LONG = "abcdefghijkl"

ROWS = [
    (("name", (1, 1), 0, ("rosa", "alba"), ("t", "s"), None), "1.1 name kind rosa alba sheets t s"),
    (("name", (0, BIG), 0, ("rosa", "alba"), ("t",), None), "0.1000000000000 name kind rosa alba sheets t"),
    (("name", (BIG, 1), 0, ("a", LONG), (), (0, 1)), "1000000000000.1 name kind a abcdefghijkl like 0.1"),
    (("name", (2, 1), 1, ("rosa",), (), (1, 1)), "2.1 name family rosa like 1.1"),
    (("name", (2, 1), 2, ("rosa",), (), (1, 1)), "2.1 name group2 rosa like 1.1"),
    (("name", (2, 1), 5, ("rosa",), (), (BIG, BIG)), "2.1 name group5 rosa like 1000000000000.1000000000000"),
    (("choice", (3, 1), (1, 1), "s"), "3.1 choose 1.1 s"),
    (("strike", (3, 10), (1, 1), False), "3.10 strike 1.1"),
    (("strike", (10, 3), (1, 1), True), "10.3 strike 1.1 wholly"),
    (("ahead", (5, 1), (2, 1), (1, 1)), "5.1 ahead 2.1 1.1"),
    (("page", (6, 1), "ann", ()), "6.1 page ann"),
    (("page", (6, 1), "ann", (("take", "ann"),)), "6.1 page ann ; take ann"),
    (("page", (6, 1), "ann", (("join", A, B), ("join", (5, "x"), (5, "y")))),
     "6.1 page ann ; join kind a kind b ; join group5 x group5 y"),
    (("page", (6, 1), "ann", (("put", ("t", "s"), A), ("out", ("v", "u")), ("put", ("w",), A))),
     "6.1 page ann ; put t s into kind a ; out v u ; put w into kind a"),
    (("page", (6, 1), "ann", (("move", A, F), ("move", F, H), ("move", (3, "p"), (4, "q")), ("move", (5, "x"), None))),
     "6.1 page ann ; move kind a family f ; move family f group2 h ; move group3 p group4 q ; move group5 x nowhere"),
    (("saying", (7, 1), "cat", ("ann", (0, 0), A), ("bob", (BIG + 1, BIG + 1), F), True, False, None),
     "7.1 say cat ann 0.0 kind a bob 1000000000001.1000000000001 family f some none any"),
    (("saying", (7, 1), "cat", ("ann", (0, 0), H), ("ann", (0, 1), (5, "x")), None, True, False),
     "7.1 say cat ann 0.0 group2 h ann 0.1 group5 x any some none"),
    # Words that are also signs of the rows.
    (("name", (1, 1), 0, ("sheets", "like"), ("like", "sheets", "kind"), None), "1.1 name kind sheets like sheets like sheets kind"),
    (("name", (1, 1), 0, ("like", "sheets"), (), (0, 1)), "1.1 name kind like sheets like 0.1"),
    (("name", (1, 1), 1, ("like",), (), (0, 1)), "1.1 name family like like 0.1"),
    (("name", (1, 1), 0, ("kind", "family"), ("name",), None), "1.1 name kind kind family sheets name"),
    (("choice", (3, 1), (1, 1), "choose"), "3.1 choose 1.1 choose"),
    (("page", (6, 1), "page", (("take", "take"), ("out", ("out", "into", "nowhere")))), "6.1 page page ; take take ; out out into nowhere"),
    (("page", (6, 1), "page", (("put", ("into", "kind"), (0, "into")),)), "6.1 page page ; put into kind into kind into"),
    (("page", (6, 1), "page", (("put", ("put", "into", "intox"), (0, "kind")),)), "6.1 page page ; put put into intox into kind kind"),
    (("page", (6, 1), "page", (("move", (0, "nowhere"), None), ("move", (0, "kind"), (1, "nowhere")))),
     "6.1 page page ; move kind nowhere nowhere ; move kind kind family nowhere"),
    (("page", (6, 1), "page", (("join", (0, "kind"), (0, "join")),)), "6.1 page page ; join kind kind kind join"),
    (("saying", (7, 1), "say", ("some", (0, 0), (0, "kind")), ("any", (0, 0), (0, "none")), None, None, None),
     "7.1 say say some 0.0 kind kind any 0.0 kind none any any any"),
]

# Rows whose entries a house may refuse for what they name, and which are read all the same.
UNASKED = [
    "1.1 name kind a b like 1.1", "1.1 name kind a b like 9.9", "1.1 name family a like 2.1", "1.1 choose 1.1 s", "1.1 choose 2.1 s",
    "1.1 strike 1.1", "1.1 strike 5.5 wholly", "1.1 ahead 2.2 2.2", "1.1 ahead 1.1 1.1",
    "1.1 page ann ; take ann ; join kind a kind b ; join kind a kind b",
]

UNREADABLE = [
    "", " ", "1.1", "1.1 ", "name", "1.1 name", "1.1 nam kind a b sheets s", "1.1 Name kind a b sheets s", "name 1.1 kind a b sheets s",
    "1.1 choice 1.1 s", "1.1 saying", "1.1 page", "1.1 say", "1.1 strike", "1.1 ahead", "1.1 choose", "1.1 say ann",
    # Moments: noughts ahead, signs, other figures, other dots, none, too great.
    "01.1 page ann", "1.01 page ann", "00.1 page ann", "1.0 page ann", "1.00 page ann", "-1.1 page ann", "+1.1 page ann", "1.-1 page ann",
    "1 page ann", "1. page ann", ".1 page ann", ". page ann", "1..1 page ann", "1.1.1 page ann", "1,1 page ann", "1_0.1 page ann",
    "a.b page ann", "1.1a page ann", "0x1.1 page ann", "1e1.1 page ann", "1000000000001.1 page ann", "1.1000000000001 page ann",
    "1" * 30 + ".1 page ann", "1." + "1" * 5000 + " page ann", "\u0661.1 page ann", "1.\u00b2 page ann", "\uff11.1 page ann",
    # Blanks, tabs and line feeds.
    " 1.1 page ann", "1.1 page ann ", "1.1  page ann", "1.1 page  ann", "1.1\tpage ann", "1.1 page\tann", "1.1 page ann\t",
    "1.1 page ann\n", "\n1.1 page ann", "1.1\npage ann", "1.1 page ann\n1.2 page ann", "1.1 page ann\r", "1.1\u00a0page ann",
    # Names.
    "1.1 name kind a b", "1.1 name kind a b sheets", "1.1 name kind a b sheets ", "1.1 name kind a sheets s", "1.1 name kind a b c sheets s",
    "1.1 name kind a b sheets s s", "1.1 name kind a b sheets s  t", "1.1 name kind a b sheets S", "1.1 name kind a b sheets s,t",
    "1.1 name kind a b sheet s", "1.1 name kind A b sheets s", "1.1 name kind a b1 sheets s", "1.1 name kind a abcdefghijklm sheets s",
    "1.1 name kind a b sheets abcdefghijklm", "1.1 name kind a b like", "1.1 name kind a b like 0.1 0.2", "1.1 name kind a b like 0.0",
    "1.1 name kind a b like s", "1.1 name kind a b like 00.1", "1.1 name kind a b sheets s like 0.1", "1.1 name kind a b like 0.1 sheets s",
    "1.1 name kind a like 0.1", "1.1 name family a b like 0.1", "1.1 name family a sheets s", "1.1 name family a", "1.1 name family a sheets",
    "1.1 name family like 0.1", "1.1 name group a like 0.1", "1.1 name group1 a like 0.1", "1.1 name group6 a like 0.1",
    "1.1 name group0 a like 0.1", "1.1 name Kind a b sheets s", "1.1 name 0 a b sheets s", "1.1 name kinds a b sheets s",
    "1.1 name group2 a b like 0.1", "1.1 name a b sheets s", "1.1 name family a like", "1.1 name kind a b sheets 0.1", "1.1 name kind",
    # Choices, strikes, aheads.
    "1.1 choose 0.1", "1.1 choose s", "1.1 choose 0.1 s t", "1.1 choose 0.1 S", "1.1 choose s 0.1", "1.1 choose 0.0 s", "1.1 choose 0.1 0.2",
    "1.1 strike s", "1.1 strike 0.0", "1.1 strike 0.1 whole", "1.1 strike 0.1 wholly wholly", "1.1 strike wholly 0.1", "1.1 strike wholly",
    "1.1 strike 0.1 ", "1.1 strike 0.1 plainly", "1.1 strike 0.1 0.2", "1.1 ahead 0.1", "1.1 ahead 0.1 0.2 0.3", "1.1 ahead 0.1 s",
    "1.1 ahead s 0.1", "1.1 ahead 0.1 0.0", "1.1 ahead 0.0 0.1",
    # Pages.
    "1.1 page Ann", "1.1 page Ann ; take bob", "1.1 page ann bob", "1.1 page ;", "1.1 page ; take ann", "1.1 page ann ;", "1.1 page ann ; ", "1.1 page ann ; ; take bob",
    "1.1 page ann ; take bob ;", "1.1 page ann; take bob", "1.1 page ann ;take bob", "1.1 page ann take bob", "1.1 page ann ; take",
    "1.1 page ann ; take bob cid", "1.1 page ann ; take Bob", "1.1 page ann ; take bob ; take cid", "1.1 page ann ; takes bob",
    "1.1 page ann ; join kind a", "1.1 page ann ; join kind a kind", "1.1 page ann ; join kind a kind a", "1.1 page ann ; join kind a family b",
    "1.1 page ann ; join kind a kind b kind c", "1.1 page ann ; join kind a nowhere", "1.1 page ann ; join a b", "1.1 page ann ; join group6 a group6 b",
    "1.1 page ann ; put into kind a", "1.1 page ann ; put s kind a", "1.1 page ann ; put s into family a", "1.1 page ann ; put s into kind",
    "1.1 page ann ; put s into a", "1.1 page ann ; put s s into kind a", "1.1 page ann ; put s into kind a b", "1.1 page ann ; put S into kind a",
    "1.1 page ann ; put s t", "1.1 page ann ; put s in kind a", "1.1 page ann ; put", "1.1 page ann ; put s", "1.1 page ann ; put into",
    "1.1 page ann ; put s into nowhere", "1.1 page ann ; put s into kind A", "1.1 page ann ; put s into kind into kinds a",
    "1.1 page ann ; put kind a into kind", "1.1 page ann ; put kind a kind b", "1.1 page ann ; out", "1.1 page ann ; out s s",
    "1.1 page ann ; out S", "1.1 page ann ; out s ; put s into kind a", "1.1 page ann ; out s ; out s", "1.1 page ann ; put s into kind a ; put s into kind b",
    "1.1 page ann ; move kind a", "1.1 page ann ; move kind a kind b", "1.1 page ann ; move family a kind b", "1.1 page ann ; move kind a nowher",
    "1.1 page ann ; move kind a nowhere nowhere", "1.1 page ann ; move nowhere kind a", "1.1 page ann ; move kind a none b",
    "1.1 page ann ; move kind a family B", "1.1 page ann ; move kind a family", "1.1 page ann ; move nowhere", "1.1 page ann ; move a nowhere",
    "1.1 page ann ; move kind a nowhere ; move kind a family b", "1.1 page ann ; move kind a group6 b", "1.1 page ann ; moved kind a family b",
    "1.1 page ann ; kind a family b", "1.1 page ann ; nowhere", "1.1 page ann ; take kind a kind b", "1.1 page ann ; out kind a kind b nowhere 1",
    "1.1 page ann ; into kind a kind b", "1.1 page ann ; move kind a group2", "1.1 page ann ; move group2 b kind a", "1.1 page ann ; move kinds a nowhere",
]

SAY = "7.1 say cat ann 0.0 kind a bob 0.0 family f some none any"

UNREADABLE_SAYINGS = [
    SAY + " any", SAY[:-4], SAY + " ", SAY.replace("some", "Some"), SAY.replace("some", "true"), SAY.replace("any", "None"),
    SAY.replace("cat", "Cat"), SAY.replace(" cat", ""), SAY.replace("ann", "Ann"), SAY.replace("bob", "b0b"), SAY.replace("bob", "ann"),
    SAY.replace("ann 0.0", "ann 00.0"), SAY.replace("bob 0.0", "bob 0"), SAY.replace("bob 0.0", "bob 1000000000002.0"),
    SAY.replace("bob 0.0", "bob 0.1000000000002"), SAY.replace("bob 0.0", "bob any"), SAY.replace("kind a", "a"), SAY.replace("kind a", "kind A"),
    SAY.replace("kind a", "nowhere"), SAY.replace("family f", "group6 f"), SAY.replace("family f", "family"), SAY.replace("7.1", "7.0"),
    SAY.replace("some none any", "some none"), SAY.replace("ann 0.0", "0.0 ann"), SAY.replace("family f", "f family"),
    SAY.replace("none", "nothing"), SAY.replace("any", "any\n"), SAY.replace("say", "said"), SAY.replace(" bob", "  bob"),
]


class Rows(unittest.TestCase):
    def test_written_and_read(self):
        for record, row in ROWS:
            with self.subTest(row):
                self.assertEqual(show_record(record), row)
                self.assertEqual(read_record(row), record)
                self.assert_alike(read_record(row), record)
        self.assertEqual(show_record(record=ROWS[0][0]), ROWS[0][1])
        self.assertEqual(read_record(row=ROWS[0][1]), ROWS[0][0])

    def assert_alike(self, one, other):
        """Of the same sorts all through: tuples, and truths that are no numbers."""
        self.assertIs(type(one), type(other))
        if isinstance(one, tuple):
            for part, place in zip(one, other):
                self.assert_alike(part, place)

    def test_what_is_named_is_not_asked_for(self):
        for row in UNASKED:
            self.assertEqual(show_record(read_record(row)), row)

    def test_unread(self):
        for row in UNREADABLE + UNREADABLE_SAYINGS:
            with self.subTest(row[:60]):
                self.assertEqual(refusal(self, Unread, read_record, row).row, row)
        self.assertEqual(read_record(SAY)[3], ("ann", (0, 0), A))

    def test_of_anything(self):
        for thing in strange() + [Agreeing(), Angry(), b"1.1 page ann", ["1.1 page ann"], ("1.1", "page", "ann"), RECORDS[0]]:
            self.assertIs(refusal(self, Unread, read_record, thing).row, thing)

    def test_a_word_away_or_twice(self):
        for record, row in ROWS:
            words = row.split(" ")
            for at in range(len(words)):
                for other in [words[:at] + words[at + 1:], words[:at + 1] + words[at:]]:
                    text = " ".join(other)
                    try:
                        told = read_record(text)
                    except Unread as error:
                        self.assertEqual(error.row, text)
                        continue
                    # Another entry may be left, which is just what is written.
                    self.assertEqual(show_record(told), text)
                    self.assertNotEqual(told, record)

    def test_chance_rows(self):
        chance = random.Random(151)
        signs = ["1.1", "0.0", "name", "kind", "family", "group2", "sheets", "like", "choose", "strike", "wholly", "ahead", "page", ";",
                 "take", "join", "put", "into", "out", "move", "nowhere", "say", "some", "none", "any", "a", "b", "", "2.1"]
        read = 0
        for _ in range(20000):
            words = chance.choice([row for _, row in ROWS]).split(" ")
            for _ in range(chance.randint(1, 3)):
                at = chance.randrange(len(words))
                words[at:at + chance.randrange(2)] = [chance.choice(signs)]
            text = " ".join(words)
            try:
                told = read_record(text)
            except Unread as error:
                self.assertEqual(error.row, text)
                continue
            read += 1
            self.assertEqual(show_record(told), text)
        self.assertGreater(read, 300)

    def test_just_what_a_house_lets_by_its_form(self):
        # What is read is refused for what it names alone.
        chance = random.Random(152)
        for _ in range(30):
            for record in some_house_records(chance):
                row = show_record(record)
                self.assertEqual(read_record(row), record)
                house = House()
                if named(record):
                    refusal(self, NoName, house.tell, read_record(row))
                else:
                    house.tell(read_record(row))


class Houses(unittest.TestCase):
    text = "\n".join([
        "1.1 name kind rosa alba sheets t s",
        "1.2 page ann ; put s t into kind a ; put u into kind b ; move kind a family f ; move kind b family f",
        "2.1 name kind rosa nova like 1.1",
        "2.2 name family rosa like 1.1",
        "2.3 page bob ; take ann ; join kind b kind c ; out u ; move kind b nowhere",
        "3.1 choose 1.1 s",
        "3.2 say cat ann 2.0 kind a bob 3.0 kind a some none any",
        "4.1 strike 2.1 wholly",
        "4.2 strike 1.1",
        "5.1 ahead 2.1 1.1",
        "6.1 page ann",
        "1000000000000.1000000000000 say ann ann 0.0 group2 h ann 1000000000001.1000000000001 group5 x any any any",
    ])

    def test_written_and_read(self):
        house = house_of(RECORDS)
        self.assertEqual(show_house(house), self.text)
        self.assertEqual(show_house(house=house_of(RECORDS)), self.text)
        told = read_house(self.text)
        self.assertIsInstance(told, House)
        self.assertEqual(told.records(), RECORDS)
        self.assertEqual(read_house(text=self.text).tree("ann"), house.tree("ann"))
        self.assertEqual(show_house(told), self.text)

    def test_of_no_entries(self):
        self.assertEqual(show_house(House()), "")
        self.assertEqual(len(read_house("")), 0)
        self.assertEqual(show_house(house_of(RECORDS[:1])), self.text.split("\n")[0])
        self.assertEqual(read_house(self.text.split("\n")[0]).records(), RECORDS[:1])

    def test_a_new_house_each_time(self):
        one, other = read_house(self.text), read_house(self.text)
        one.drop((5, 1))
        self.assertEqual(other.records(), RECORDS)
        self.assertEqual(read_house(self.text).records(), RECORDS)

    def test_in_other_orders_that_go(self):
        chance = random.Random(153)
        for _ in range(40):
            records = some_house_records(chance)
            waiting, rows = list(records), []
            while waiting:
                record = chance.choice(waiting)
                if not any(each[1] in named(record) for each in waiting):
                    rows.append(show_record(record))
                    waiting.remove(record)
            house = read_house("\n".join(rows))
            self.assertEqual(house.records(), records)
            self.assertEqual(sorted(show_house(house).split("\n")), sorted(rows))

    def test_the_first_row_that_cannot_be_read(self):
        rows = self.text.split("\n")
        for bad in ["", "1.1", "x", rows[0] + " ", "\t"]:
            for at in range(len(rows) + 1):
                text = "\n".join(rows[:at] + [bad, "worse"] + rows[at:])
                self.assertEqual(refusal(self, Unread, read_house, text).row, bad)
        for text, row in [("\n", ""), (self.text + "\n", ""), ("\n" + self.text, ""), (self.text.replace("\n", "\n\n"), ""),
                          (" ", " "), (self.text.replace("\n", "\r\n"), rows[0] + "\r"), (self.text.replace("\n", " "), self.text.replace("\n", " "))]:
            self.assertEqual(refusal(self, Unread, read_house, text).row, row)

    def test_rows_are_read_ahead_of_all_that_a_house_refuses(self):
        text = "\n".join(["1.1 strike 0.1", "1.1 strike 0.1", "bad"])
        self.assertEqual(refusal(self, Unread, read_house, text).row, "bad")

    def test_what_is_no_text(self):
        for thing in strange() + [Agreeing(), Angry(), [self.text], self.text.encode(), self.text.split("\n"), House()]:
            if not isinstance(thing, str):
                self.assertIs(refusal(self, Unread, read_house, thing).row, thing)

    def test_what_the_house_refuses_row_by_row(self):
        rows = self.text.split("\n")
        for more, error, moment in [
            ("1.1 page ann", SameMoment, (1, 1)), ("3.2 page ann", SameMoment, (3, 2)), ("9.1 strike 1.2", NoName, (1, 2)),
            ("9.1 name kind a b like 3.1", NoName, (3, 1)), ("1.3 strike 2.1", Later, (2, 1)), ("1.3 name kind a b like 2.1", Later, (2, 1)),
            ("9.1 name family a like 2.2", Unfit, (2, 2)), ("9.1 ahead 1.1 1.1", Unfit, (1, 1)), ("9.1 choose 2.1 s", Unfit, (2, 1)),
            ("9.1 ahead 1.1 2.2", Unfit, (2, 2)), ("9.1 choose 9.9 s", NoName, (9, 9)),
        ]:
            for text in [rows + [more], rows + [more, "9.9 strike 8.8"], rows + [more, more]]:
                self.assertEqual(refusal(self, error, read_house, "\n".join(text)).moment, moment)
        self.assertEqual(refusal(self, NoSheet, read_house, self.text + "\n9.1 choose 1.1 u").sheet, "u")
        # What is named must be told ahead.
        self.assertEqual(refusal(self, NoName, read_house, "\n".join([rows[2], rows[0]])).moment, (1, 1))
        self.assertEqual(refusal(self, NoName, read_house, "\n".join([rows[8], *rows])).moment, (1, 1))


if __name__ == "__main__":
    unittest.main()
