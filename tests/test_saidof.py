import random
import unittest

from houses import A, B, C, F, G, H, RECORDS, house_of, some_house_records
from kindnames.called import called
from kindnames.errors import BadSaying, NoNode, TooMany
from kindnames.frames import Frame, Saying
from kindnames.house import House
from kindnames.mays import may_lie
from kindnames.saidof import house_may_lie, use_may
from kindnames.uses import meant
from slow_worlds import is_so, worlds
from things import refusal

WORDS = ["same", "within", "round", "cross", "apart"]

# Ann has s, t in A and u in B; bob has s in A and v in C, all in a family; cid has w in A.
PAGES = [
    ("page", (1, 1), "ann", (("put", ("s", "t"), A), ("put", ("u",), B), ("move", A, F))),
    ("page", (1, 2), "bob", (("put", ("s",), A), ("put", ("v",), C), ("move", A, G), ("move", C, G))),
    ("page", (1, 3), "cid", (("put", ("w",), A),)),
    ("page", (3, 1), "ann", (("put", ("t",), B),)),
]
ANN, BOB, CID, LATER = ("ann", (2, 0)), ("bob", (2, 0)), ("cid", (2, 0)), ("ann", (4, 0))


def side(of, node):
    return (*of, node)


def said(day, one, other, both=None, first=None, second=None):
    return ("saying", (day, 50), "cat", one, other, both, first, second)


def papers(told):
    return "".join(word[0] if paper[0] == "world" else "-" for word, paper in told.items())


class MayLie(unittest.TestCase):
    def test_no_sayings(self):
        house = house_of(PAGES)
        told = house_may_lie(house, side(ANN, A), side(BOB, A))
        frame = Frame([house.tree("ann", upto=(2, 0)), house.tree("bob", upto=(2, 0))])
        self.assertEqual(told, may_lie(frame, [], (0, A), (1, A)))
        self.assertEqual(list(told), WORDS)
        self.assertEqual(papers(told), "swrc-")
        self.assertEqual(told["apart"], ("clash", ("sheet", "s"), [((A, A), 0, "both")]))

    def test_sayings_of_the_two_trees_alone(self):
        house = house_of(PAGES)
        one, other = side(ANN, A), side(BOB, A)
        house.tell(said(5, side(BOB, A), side(ANN, A), second=False))
        # Of other trees, of one of the two at another pair, of a third one.
        house.tell(said(6, side(LATER, A), side(BOB, A), both=False, first=False))
        house.tell(said(7, side(ANN, A), side(CID, A), both=False, first=False))
        house.tell(said(8, side(ANN, A), ("bob", (2, 1), A), both=False, first=False))
        house.tell(said(9, ("bob", (3, 0), A), side(ANN, A), both=False, first=False))
        house.tell(said(10, side(ANN, A), side(LATER, A), both=False, first=False))
        told = house_may_lie(house, one, other)
        frame = Frame([house.tree("ann", upto=(2, 0)), house.tree("bob", upto=(2, 0))])
        self.assertEqual(told, may_lie(frame, [Saying((1, A), (0, A), second=False)], (0, A), (1, A)))
        self.assertEqual(papers(told), "sw---")
        self.assertEqual(told["cross"], ("clash", ("saying", 1, "first"), [((A, C), 0, "second"), ((A, None), 0, "second")]))
        # The other way about the trees are the other way about, and so are the sayings' sides.
        told = house_may_lie(house, other, one)
        frame = Frame([house.tree("bob", upto=(2, 0)), house.tree("ann", upto=(2, 0))])
        self.assertEqual(told, may_lie(frame, [Saying((0, A), (1, A), second=False)], (0, A), (1, A)))
        self.assertEqual(papers(told), "s-r--")

    def test_a_third_tree(self):
        house = house_of(PAGES)
        house.tell(said(5, side(ANN, A), side(CID, A), both=None, first=False))
        house.tell(said(6, side(CID, A), side(BOB, A), both=True, first=False))
        one, other = side(ANN, A), side(BOB, A)
        self.assertEqual(papers(house_may_lie(house, one, other)), "swrc-")
        self.assertEqual(papers(house_may_lie(house, one, other, third=CID)), "sw---")
        frame = Frame([house.tree("ann", upto=(2, 0)), house.tree("bob", upto=(2, 0)), house.tree("cid", upto=(2, 0))])
        sayings = [Saying((0, A), (2, A), first=False), Saying((2, A), (1, A), both=True, first=False)]
        self.assertEqual(house_may_lie(house, one, other, third=CID), may_lie(frame, sayings, (0, A), (1, A)))
        self.assertEqual(papers(house_may_lie(house=house, one=one, other=other, third=CID, upto=(6, 0))), "swrc-")
        self.assertEqual(papers(house_may_lie(house, one, other, third=LATER)), "swrc-")

    def test_one_mind_up_to_two_pairs(self):
        house = house_of(PAGES)
        # t is put into B later: it is in A at first, and in B then.
        self.assertEqual(papers(house_may_lie(house, side(ANN, A), side(LATER, A))), "--rc-")
        self.assertEqual(papers(house_may_lie(house, side(ANN, A), side(LATER, B))), "---c-")
        house.tell(said(5, side(LATER, A), side(ANN, A), first=False))
        self.assertEqual(papers(house_may_lie(house, side(ANN, A), side(LATER, A))), "--r--")

    def test_sayings_by_their_moments_up_to_an_upto(self):
        house = house_of(PAGES)
        # Told later than it stands.
        house.tell(said(9, side(ANN, A), side(BOB, A), both=True, second=False))
        house.tell(said(5, side(ANN, A), side(BOB, G), first=True))
        house.tell(said(7, side(BOB, C), side(ANN, A), both=False))
        frame = Frame([house.tree("ann", upto=(2, 0)), house.tree("bob", upto=(2, 0))])
        sayings = [Saying((0, A), (1, G), first=True), Saying((1, C), (0, A), both=False),
                   Saying((0, A), (1, A), both=True, second=False)]
        for upto, many in [((0, 0), 0), ((5, 49), 0), ((5, 50), 1), ((6, 0), 1), ((7, 50), 2), ((8, 99), 2), ((9, 50), 3), (None, 3)]:
            told = house_may_lie(house, side(ANN, A), side(BOB, A), upto=upto)
            self.assertEqual(told, may_lie(frame, sayings[:many], (0, A), (1, A)))
        # The trees are up to their pairs, whatever the upto.
        self.assertEqual(papers(house_may_lie(house, side(ANN, A), side(BOB, A), upto=(0, 0))), "swrc-")

    def test_sayings_whose_nodes_are_not_there(self):
        house = house_of(PAGES)
        strong = {"both": False, "first": False}
        for day, (one, other) in enumerate([(side(ANN, C), side(BOB, A)), (side(ANN, A), side(BOB, B)), (side(BOB, H), side(ANN, A)),
                                            (side(BOB, C), side(ANN, G))]):
            house.tell(said(5 + day, one, other, **strong))
        self.assertEqual(papers(house_may_lie(house, side(ANN, A), side(BOB, A))), "swrc-")
        house.tell(said(20, side(BOB, C), side(ANN, F), **strong))
        self.assertEqual(papers(house_may_lie(house, side(ANN, A), side(BOB, A))), "-----")

    def test_refused(self):
        house = house_of(PAGES)
        one, other, none = side(ANN, A), side(BOB, A), ("ann", (2, 0), C)
        for bad, worse in [(one, one), (one, side(ANN, B)), (none, side(ANN, H))]:
            for third in [None, CID, ANN]:
                self.assertEqual(refusal(self, BadSaying, house_may_lie, house, bad, worse, third=third).part, "other")
        for third in [ANN, BOB]:
            self.assertEqual(refusal(self, BadSaying, house_may_lie, house, one, other, third=third).part, "third")
            self.assertEqual(refusal(self, BadSaying, house_may_lie, house, none, side(BOB, B), third=third).part, "third")
        self.assertEqual(refusal(self, NoNode, house_may_lie, house, none, side(BOB, B)).node, C)
        self.assertEqual(refusal(self, NoNode, house_may_lie, house, one, side(BOB, B), third=CID).node, B)
        self.assertEqual(refusal(self, NoNode, house_may_lie, house, ("ann", (0, 0), A), other).node, A)
        self.assertEqual(refusal(self, NoNode, house_may_lie, house, one, ("zed", (2, 0), F)).node, F)

    def test_too_many_places(self):
        house = House()
        for at, (mind, many) in enumerate([("ann", 57), ("bob", 68), ("cid", 1)]):
            words = [one + two for one in "abcdefgh" for two in "abcdefghij"][:many]
            house.page((1, at + 1), mind, [("put", [word + mind[0]], (0, word)) for word in words])
        one, other = ("ann", (1, 9), (0, "aa")), ("bob", (1, 9), (0, "ab"))
        self.assertEqual(refusal(self, TooMany, house_may_lie, house, one, other).many, 58 * 69 - 1)
        self.assertEqual(refusal(self, TooMany, house_may_lie, house, one, other, third=("cid", (1, 9))).many, 58 * 69 * 2 - 1)
        # Nodes that aren't there are told ahead of it.
        self.assertEqual(refusal(self, NoNode, house_may_lie, house, one, ("bob", (1, 9), B)).node, B)
        self.assertEqual(len(house_may_lie(house, one, ("cid", (1, 9), (0, "aa")), third=None)), 5)

    def test_held_beside_a_frame_made_so(self):
        chance = random.Random(141)
        many = 0
        for _ in range(1000):
            house = house_of(some_house_records(chance))
            minds = [(mind, (day, page)) for mind in ["ann", "bob"] for day in range(5) for page in (0, 5)]
            asked = chance.sample(minds, chance.choice([2, 3]))
            sayings = [record for record in house.records() if record[0] == "saying"]
            if sayings and chance.random() < 0.8:
                chosen = chance.choice(sayings)
                asked[:2] = chance.choice([[chosen[3][:2], chosen[4][:2]], [chosen[4][:2], chosen[3][:2]]])
            trees = [house.tree(mind, upto=pair) for mind, pair in asked]
            if len(set(asked)) < len(asked) or not len(trees[0]) or not len(trees[1]):
                continue
            upto = chance.choice([None, None, (2, 0)])
            frame, told = Frame(trees), []
            for _, moment, _, one, other, both, first, second in sayings:
                if (upto is None or moment <= upto) and one[:2] in asked and other[:2] in asked:
                    sides = [(asked.index(each[:2]), each[2]) for each in [one, other]]
                    if all(node in trees[number].nodes() for number, node in sides):
                        told.append(Saying(*sides, both=both, first=first, second=second))
            many += len(told) > 0
            node, below = chance.choice(trees[0].nodes()), chance.choice(trees[1].nodes())
            third = asked[2] if len(asked) == 3 else None
            self.assertEqual(house_may_lie(house, side(asked[0], node), side(asked[1], below), third=third, upto=upto),
                             may_lie(frame, told, (0, node), (1, below)))
        self.assertGreater(many, 10)


BOOK = [
    ("name", (1, 10), 0, ("rosa", "alba"), ("s",), None),
    ("name", (1, 11), 0, ("rosa", "nova"), ("u",), None),
    ("name", (1, 12), 1, ("rosa",), (), (1, 10)),
]


class UseMay(unittest.TestCase):
    def ask(self, house, words=("rosa", "alba"), mind="ann", other="bob", **more):
        return use_may(house, words, mind, other, **{"upto": (2, 0), "on": (2, 0), **more})

    def test_by_sheets_alone(self):
        house = house_of(BOOK + PAGES)
        # s is in A and A; t may be with it, with C, outside.
        self.assertEqual(self.ask(house), [(A, "may"), (C, "may")])
        self.assertEqual(use_may(house=house, words=("rosa", "alba"), mind="ann", other="cid", upto=(2, 0), on=(2, 0), told=None),
                         [(A, "may")])
        self.assertEqual(self.ask(house, other="zed"), [])

    def test_sure_may_and_cannot(self):
        house = house_of(BOOK + PAGES)
        house.tell(said(5, side(ANN, A), side(BOB, C), both=False))
        self.assertEqual(self.ask(house), [(A, "may"), (C, "can't")])
        house.tell(said(6, side(BOB, G), side(ANN, F), second=False))
        self.assertEqual(self.ask(house), [(A, "sure"), (C, "can't")])
        # Sayings up to told, by which no more is known.
        self.assertEqual(self.ask(house, told=(5, 49)), [(A, "may"), (C, "may")])
        self.assertEqual(self.ask(house, told=(5, 50)), [(A, "may"), (C, "can't")])
        self.assertEqual(self.ask(house, told=(6, 49)), [(A, "may"), (C, "can't")])
        self.assertEqual(self.ask(house, told=(6, 50)), [(A, "sure"), (C, "can't")])

    def test_what_holds_in_each_world_and_is_not_said(self):
        house = house_of(BOOK + PAGES)
        # All of bob's family is one with what is in B: nothing of it is in A but by s.
        house.tell(said(5, side(BOB, C), side(ANN, B), first=False))
        self.assertEqual(self.ask(house), [(A, "may"), (C, "can't")])
        house = house_of(BOOK + PAGES)
        house.tell(said(5, side(ANN, A), side(BOB, C), both=False, first=True))
        house.tell(said(6, side(ANN, F), side(BOB, A), first=False))
        self.assertEqual(self.ask(house), [(A, "sure"), (C, "can't")])

    def test_pairs(self):
        house = house_of(BOOK + PAGES)
        house.tell(said(5, side(LATER, A), side(BOB, A), first=False))
        self.assertEqual(self.ask(house), [(A, "may"), (C, "may")])
        self.assertEqual(self.ask(house, upto=(4, 0)), [(A, "sure"), (C, "can't")])
        self.assertEqual(self.ask(house, on=(1, 1)), [])
        # By the other's tree as it is on the day on.
        house.page((6, 1), "bob", [("join", A, C)])
        self.assertEqual(self.ask(house, on=(9, 0)), [(A, "may")])
        house.drop((6, 1))
        house.page((6, 1), "bob", [("join", B, C)])
        self.assertEqual(self.ask(house, on=(9, 0)), [(A, "may"), (C, "may")])

    def test_words_that_mean_no_kind(self):
        house = house_of(BOOK + PAGES)
        self.assertIsNone(self.ask(house, words=("rosa", "nova")))
        self.assertIsNone(self.ask(house, words=("rosa", "alta")))
        self.assertIsNone(self.ask(house, words=("alba", "rosa")))
        self.assertIsNone(self.ask(house, mind="zed"))
        # By the book up to the pair of the use.
        self.assertIsNone(self.ask(house, upto=(1, 11)))
        self.assertEqual(self.ask(house, upto=(1, 12)), [(A, "may"), (C, "may")])

    def test_no_world(self):
        house = house_of(BOOK + PAGES)
        house.tell(said(5, side(ANN, A), side(BOB, A), both=False))
        self.assertIsNone(self.ask(house))
        self.assertEqual(self.ask(house, told=(5, 0)), [(A, "may"), (C, "may")])
        self.assertEqual(self.ask(house, upto=(2, 1)), [(A, "may"), (C, "may")])

    def test_one_mind_up_to_one_pair(self):
        house = house_of(BOOK + PAGES)
        self.assertEqual(self.ask(house, other="ann"), [(A, "may"), (B, "may")])
        # There are no sayings of them, whatever is said of others.
        house.tell(said(5, side(ANN, A), side(BOB, A), both=False))
        house.tell(said(6, side(ANN, A), side(LATER, A), both=False, first=False))
        self.assertEqual(self.ask(house, other="ann"), [(A, "may"), (B, "may")])
        self.assertIsNone(self.ask(house, other="ann", on=(4, 0)))

    def test_told_anew(self):
        house = house_of(BOOK + PAGES)
        before = house.records()
        self.ask(house).clear()
        house_may_lie(house, side(ANN, A), side(BOB, A)).clear()
        self.assertEqual(self.ask(house), [(A, "may"), (C, "may")])
        self.assertEqual(house.records(), before)

    def test_held_beside_the_worlds(self):
        chance = random.Random(142)
        seen = {}
        for _ in range(400):
            house = house_of(BOOK)
            nodes = [A, B, F]
            for at, mind in enumerate(["ann", "bob"]):
                some = [("s", "t"), ("s",), ("u",)] if mind == "ann" else [("s",), ("t",), ("u",), ("v",)]
                deeds = [("put", some[0], A)] + [("put", each, B) for each in some[2:] if chance.random() < 0.5]
                house.page((1, at + 1), mind, deeds + [("move", A, F)] + [("move", B, F)] * (chance.random() < 0.5))
            for day in range(2, 2 + chance.randrange(4)):
                one, other = chance.sample([ANN, BOB], 2)
                values = [chance.choice([False, False, True, None, None]) for _ in range(3)]
                house.tell(said(day, side(one, chance.choice(nodes)), side(other, chance.choice(nodes)), *values))
            trees = [house.tree("ann", upto=(2, 0)), house.tree("bob", upto=(2, 0))]
            frame, sayings = Frame(trees), []
            for _, _, _, one, other, both, first, second in [each for each in house.records() if each[0] == "saying"]:
                sides = [(0 if each[0] == "ann" else 1, each[2]) for each in [one, other]]
                if all(node in trees[number].nodes() for number, node in sides):
                    sayings.append(Saying(*sides, both=both, first=first, second=second))
            all_worlds = worlds(trees, frame, sayings)
            told = self.ask(house)
            self.assertEqual(called(house.book(), trees[0], A, upto=(2, 0)), ("rosa", "alba"))
            self.assertEqual(meant(house.book(), house.minds(), ("rosa", "alba"), "ann", upto=(2, 0))[1], A)
            if not all_worlds:
                self.assertIsNone(told)
                seen[None] = seen.get(None, 0) + 1
                continue
            self.assertEqual([kind for kind, _ in told], trees[1].nodes(rank=0))
            for kind, word in told:
                seen[word] = seen.get(word, 0) + 1
                sure = all(is_so(trees, Saying((0, A), (1, kind), first=False), places) for places in all_worlds)
                cant = all(is_so(trees, Saying((0, A), (1, kind), both=False), places) for places in all_worlds)
                self.assertEqual(word, "sure" if sure else "can't" if cant else "may")
        for word in [None, "sure", "can't", "may"]:
            self.assertGreater(seen[word], 15)


if __name__ == "__main__":
    unittest.main()
