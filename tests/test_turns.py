import random
import unittest

from houses import A, B, C, F, house_of, some_house_records
from kindnames.errors import NoNode
from kindnames.house import House
from kindnames.turns import turns
from slow_right import slow_right
from things import Agreeing, Angry, refusal, strange

RECORDS = [
    ("page", (1, 1), "ann", (("put", ("s", "t"), A),)),
    ("name", (2, 1), 0, ("rosa", "alba"), ("s", "t"), None),
    ("name", (2, 2), 0, ("rosa", "nova"), ("s",), None),
    ("name", (2, 3), 0, ("rosa", "alta"), ("v", "s"), None),
    ("page", (2, 4), "bob", (("put", ("s",), A),)),
    ("saying", (2, 5), "cat", ("ann", (1, 1), A), ("bob", (1, 1), A), True, None, None),
    ("strike", (3, 1), (2, 1), False),
    ("choice", (4, 1), (2, 3), "s"),
    ("ahead", (5, 1), (2, 3), (2, 2)),
    ("page", (6, 1), "ann", (("out", ("s",)),)),
    ("page", (7, 1), "ann", (("join", A, B), ("put", ("s",), B))),
    ("strike", (8, 1), (2, 3), True),
    ("strike", (8, 2), (2, 3), True),
    ("strike", (9, 1), (2, 2), True),
]

TURNS = [
    ((2, 1), None, (2, 1)),
    # The next ones are younger. Once the first is struck, the second is right.
    ((3, 1), (2, 1), (2, 2)),
    # The third comes to be borne by s alone, but gives way by age until it is set ahead.
    ((5, 1), (2, 2), (2, 3)),
    ((6, 1), (2, 3), None),
    ((7, 1), None, (2, 3)),
    ((8, 1), (2, 3), (2, 2)),
    ((9, 1), (2, 2), None),
]


def slow_name(records, mind, kind, is_there):
    """The right name by all entries whose moments are there."""
    house = house_of([record for record in records if is_there(record[1])])
    keeper = house.minds().keeper(mind, kind)
    if keeper is None or keeper not in house.tree(mind).nodes():
        return None
    return slow_right(house.book(), house.tree(mind), keeper, None)


class Turns(unittest.TestCase):
    def test_by_each_sort_of_entry(self):
        house = house_of(RECORDS)
        told = turns(house, "ann", A, since=(0, 0))
        self.assertEqual(told, TURNS)
        self.assertEqual([type(turn) for turn in told], [tuple] * 7)
        self.assertEqual(turns(house=house, mind="ann", kind=A, since=(0, 0), upto=None), TURNS)

    def test_a_choice(self):
        house = house_of(RECORDS[:7])
        house.publish((2, 6), ("rosa", "alta"), like=(2, 3))
        house.strike((3, 2), (2, 2))
        self.assertEqual(turns(house, "ann", A, since=(3, 1)), [((3, 2), (2, 2), None)])
        house.choose((4, 1), (2, 3), "s")
        self.assertEqual(turns(house, "ann", A, since=(3, 1)), [((3, 2), (2, 2), None), ((4, 1), None, (2, 3))])

    def test_behind_the_first_pair_and_not_behind_the_second(self):
        house = house_of(RECORDS)
        moments = [(0, 0), (2, 0), (2, 1), (2, 2), (3, 0), (3, 1), (3, 2), (5, 0), (5, 1), (6, 0), (6, 1), (7, 0), (9, 1), (99, 0)]
        for since in moments:
            for upto in moments + [None]:
                want = [turn for turn in TURNS if turn[0] > since and (upto is None or turn[0] <= upto)]
                self.assertEqual(turns(house, "ann", A, since=since, upto=upto), want)

    def test_two_spans_laid_together(self):
        house = house_of(RECORDS)
        for middle in [(0, 5), (2, 1), (3, 1), (5, 0), (6, 1), (6, 2), (8, 2), (11, 0)]:
            first = turns(house, "ann", A, since=(0, 0), upto=middle)
            self.assertEqual(first + turns(house, "ann", A, since=middle), TURNS)

    def test_the_keeper_of_the_kind(self):
        house = house_of(RECORDS)
        # B leads to A from the seventh day on, and isn't born ahead of it.
        self.assertEqual(turns(house, "ann", B, since=(0, 0)), [((7, 1), None, (2, 3)), *TURNS[5:]])
        self.assertEqual(turns(house, "ann", B, since=(7, 1)), TURNS[5:])
        self.assertEqual(turns(house, "ann", C, since=(0, 0)), [])
        self.assertEqual(turns(house, "zed", A, since=(0, 0)), [])
        self.assertEqual(turns(house, "bob", A, since=(0, 0)), [
            ((2, 4), None, (2, 2)), ((5, 1), (2, 2), (2, 3)), ((8, 1), (2, 3), (2, 2)), ((9, 1), (2, 2), None)])

    def test_a_keeper_that_is_born_and_not_in_the_tree(self):
        house = House()
        house.publish((1, 1), ("rosa", "alba"), sheets=["s"])
        house.page((2, 1), "ann", [("move", A, F)])
        house.page((3, 1), "ann", [("put", ["s"], A)])
        house.page((4, 1), "ann", [("put", ["s"], B)])
        self.assertEqual(turns(house, "ann", A, since=(0, 0)), [((3, 1), None, (1, 1)), ((4, 1), (1, 1), None)])
        self.assertEqual(turns(house, "ann", B, since=(0, 0)), [((4, 1), None, (1, 1))])

    def test_an_entry_that_turns_it_there_and_back(self):
        # A name dropped again leaves no turn; told later it turns at its own moment.
        house = house_of(RECORDS)
        house.drop((3, 1))
        # The eldest stays right until s is out; t alone bears nothing.
        self.assertEqual(turns(house, "ann", A, since=(0, 0)), [
            ((2, 1), None, (2, 1)), ((6, 1), (2, 1), None), ((7, 1), None, (2, 1))])
        house.tell(RECORDS[6])
        self.assertEqual(turns(house, "ann", A, since=(0, 0)), TURNS)

    def test_no_kind_of_anything(self):
        house = house_of(RECORDS)
        for thing in strange() + [F, (2, "h"), (5, "x"), "a", ["0", "a"], (0, "a", 1), (True, "a")]:
            for since in [(0, 0), (99, 0)]:
                told = refusal(self, NoNode, turns, house, "ann", thing, since=since)
                self.assertIs(told.node, thing)
        for thing in [Agreeing(), Angry()]:
            self.assertIs(refusal(self, NoNode, turns, House(), "zed", thing, since=(0, 0), upto=(1, 1)).node, thing)

    def test_told_anew_and_nothing_changed(self):
        house = house_of(RECORDS)
        turns(house, "ann", A, since=(0, 0)).clear()
        self.assertEqual(turns(house, "ann", A, since=(0, 0)), TURNS)
        self.assertEqual(house.records(), RECORDS)

    def test_held_beside_houses_told_no_more(self):
        chance = random.Random(131)
        many = 0
        for _ in range(90):
            records = some_house_records(chance)
            house = house_of(records)
            for mind, kind in [("ann", A), ("bob", B)]:
                want = []
                for record in records:
                    before = slow_name(records, mind, kind, lambda moment: moment < record[1])
                    after = slow_name(records, mind, kind, lambda moment: moment <= record[1])
                    if before != after:
                        want.append((record[1], before, after))
                many += len(want)
                self.assertEqual(turns(house, mind, kind, since=(0, 0)), want)
                since, upto = chance.choice([(0, 25), (1, 2), (1, 5), (2, 1)]), chance.choice([(1, 9), (2, 3), (3, 0)])
                between = [turn for turn in want if since < turn[0] <= upto]
                self.assertEqual(turns(house, mind, kind, since=since, upto=upto), between)
        self.assertGreater(many, 40)


if __name__ == "__main__":
    unittest.main()
