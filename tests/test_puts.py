import itertools
import random
import unittest

from kindnames.minds import Minds
from kindnames.puts import fewest_puts, puts_page, shows_puts
from kindnames.trees import Tree
from kindnames.words import is_word
from test_ways import parcels, some_kinds, tree_of
from things import strange

A, B, C, D, E = [(0, word) for word in "abcde"]


def shared(one, kind, two, other):
    return len(set(one.sheets(kind)) & set(two.sheets(other)))


def fewest(one, two):
    """The fewest puts, by going through all pairings."""
    kinds, others = one.nodes(rank=0), two.nodes(rank=0)
    both = len(set(one.sheets()) & set(two.sheets()))
    if len(kinds) > len(others):
        one, two, kinds, others = two, one, others, kinds
    return both - max(sum(shared(one, *pair[:1], two, pair[1]) for pair in zip(kinds, some))
                      for some in itertools.permutations(others, len(kinds)))


class Fewest(unittest.TestCase):
    def told(self, one, two):
        paper = fewest_puts(one, two)
        self.assertIs(shows_puts(one, two, paper), True)
        number, pairs, first, second = paper
        both = len(set(one.sheets()) & set(two.sheets()))
        self.assertEqual(sorted(first), one.nodes(rank=0))
        self.assertEqual(sorted(second), two.nodes(rank=0))
        for kind, other in itertools.product(first, second):
            self.assertGreaterEqual(first[kind] + second[other], shared(one, kind, two, other))
        self.assertTrue(all(price >= 0 for price in [*first.values(), *second.values()]))
        self.assertEqual(sum(first.values()) + sum(second.values()), both - number)
        self.assertEqual(sum(shared(one, kind, two, other) for kind, other in pairs), both - number)
        self.assertEqual(pairs, sorted(pairs))
        self.assertEqual([len({pair[at] for pair in pairs}) for at in (0, 1)], [len(pairs)] * 2)
        self.assertEqual([type(each) for each in (paper, number, pairs, first, second)], [tuple, int, list, dict, dict])
        return number

    def test_alike_and_without_kinds(self):
        one = tree_of("st", "u")
        self.assertEqual(fewest_puts(one, one)[:2], (0, [(A, A), (B, B)]))
        self.assertEqual(fewest_puts(Tree(), Tree()), (0, [], {}, {}))
        self.assertEqual(fewest_puts(one, Tree()), (0, [], {A: 0, B: 0}, {}))
        self.assertEqual(fewest_puts(Tree(), one), (0, [], {}, {A: 0, B: 0}))
        self.assertEqual(self.told(one, Tree({E: ["u"], D: ["t", "s"]})), 0)

    def test_kinds_that_share_no_sheet(self):
        one, two = tree_of("st", "u"), tree_of("vw", "x", "y")
        self.assertEqual(fewest_puts(one, two), (0, [], {A: 0, B: 0}, {A: 0, B: 0, C: 0}))
        self.assertEqual(self.told(tree_of("st", "u"), tree_of("x", "sty")), 0)

    def test_fewest(self):
        self.assertEqual(self.told(tree_of("stu", "v"), tree_of("s", "tuv")), 2)
        self.assertEqual(self.told(tree_of("stuv"), tree_of("st", "uv")), 2)
        self.assertEqual(self.told(tree_of("st", "uv"), tree_of("stuv")), 2)
        # The heaviest pair isn't among them.
        one, two = tree_of("stuvw", "xyz"), tree_of("stuxyz", "vw")
        self.assertEqual(self.told(one, two), 3)
        self.assertEqual(fewest_puts(one, two)[1], [(A, B), (B, A)])

    def test_beside_all_pairings(self):
        chance = random.Random(29)
        for _ in range(250):
            sheets = [one + two for one in "stu" for two in "vwxy"]
            one = some_kinds(chance, sheets[:chance.randint(0, 12)], "abcd"[:chance.randint(1, 4)])
            two = some_kinds(chance, sheets[chance.randint(0, 3):], "cdefg"[:chance.randint(1, 5)])
            self.assertEqual(self.told(one, two), fewest(one, two))

    def test_many_kinds(self):
        chance = random.Random(290)
        sheets = [one + two for one in "abcdefgh" for two in "stuvwxyz"]
        for words in ["ab", "abcdefghij", "abcdefghijklmnopqrstuvwxyz"]:
            one, two = some_kinds(chance, sheets, words), some_kinds(chance, sheets, "abcdefghijklmnop")
            self.assertEqual(self.told(one, two), self.told(two, one))
        each = Tree({(0, sheet): [sheet] for sheet in sheets})
        self.assertEqual(self.told(each, each), 0)
        self.assertEqual(self.told(each, Tree({A: sheets})), 63)

    def test_told_papers_may_be_changed_and_by_names(self):
        one, two = tree_of("st"), tree_of("s", "t")
        paper = fewest_puts(one=one, two=two)
        for part in paper[1:]:
            part.clear()
        self.assertEqual(fewest_puts(one, two)[0], 1)
        self.assertIs(shows_puts(one=one, two=two, paper=paper), False)


class Look(unittest.TestCase):
    def setUp(self):
        self.one, self.two = tree_of("stu", "v", "q"), tree_of("s", "tuv", "r")

    def let(self, paper):
        return shows_puts(self.one, self.two, paper)

    def test_other_pairs_and_prices(self):
        let = (2, [(A, B)], {A: 1, B: 0, C: 0}, {A: 0, B: 1, C: 0})
        self.assertIs(self.let(let), True)
        for first, second in [({A: 1, B: 0, C: 0}, {A: 0, B: 1, C: 0}), ({C: 0, B: 0, A: 1}, {B: 1, C: 0, A: 0})]:
            for pairs in [[(A, B)], ((A, B),), [(A, A), (B, B)], [(A, B), (B, A)], [(A, B), (C, C)], [(A, B), (B, C), (C, A)]]:
                many = sum(shared(self.one, kind, self.two, other) for kind, other in pairs)
                self.assertIs(self.let((2, pairs, first, second)), many == 2)
        # Of the pairs those that share nothing are let by, too.
        self.assertIs(self.let((2, [(A, B), (B, A)], let[2], let[3])), True)

    def test_one_thing_otherwise(self):
        number, pairs, first, second = 2, [(A, B)], {A: 1, B: 0, C: 0}, {A: 0, B: 1, C: 0}
        self.assertIs(self.let((number, pairs, first, second)), True)
        for paper in [
                (1, pairs, first, second), (3, pairs, first, second), (2.0, pairs, first, second), (True, pairs, first, second),
                ("2", pairs, first, second), (None, pairs, first, second), [number, pairs, first, second],
                (number, pairs, first), (number, pairs, first, second, []),
                (2, [], first, second), (2, [(A, B), (A, B)], first, second), (2, [(A, A)], first, second),
                (2, [(B, A), (A, B)], first, second), (2, [(A, B), (B, B)], first, second), (2, [(A, A), (A, B)], first, second),
                (2, [[A, B]], first, second), (2, [(A, B, B)], first, second), (2, [(A,)], first, second),
                (2, [(A, B), (D, A)], first, second), (2, [(A, B), (B, D)], first, second), (2, [(list(A), B)], first, second),
                (2, [((False, "a"), B)], first, second), (2, [(A, (False, "b"))], first, second), (2, {A: B}, first, second),
                (2, pairs, {A: 1, B: 0}, second), (2, pairs, first, {A: 0, B: 1}), (2, pairs, {A: 1, B: 0, C: 0, D: 0}, second),
                (2, pairs, {A: 1, B: 0, D: 0}, second), (2, pairs, {A: 0, B: 1, C: 0}, second),
                (2, pairs, {A: 1, B: 0, C: 1}, second), (2, pairs, {A: 2, B: 0, C: -1}, second),
                (2, pairs, {A: 2, B: 1, C: 0}, {A: -1, B: 0, C: 0}), (2, pairs, {A: True, B: 0, C: 0}, second),
                (2, pairs, {A: 1, B: False, C: 0}, second), (2, pairs, {A: 1, B: 0.0, C: 0}, second),
                (2, pairs, {A: 1, B: None, C: 0}, second), (2, pairs, {A: 1, B: 0, (False, "c"): 0}, second),
                (2, pairs, [(A, 1), (B, 0), (C, 0)], second), (2, pairs, second, first), (2, pairs, first, None),
                (1, pairs, {A: 2, B: 0, C: 0}, second), (1, pairs, {A: 1, B: 1, C: 0}, second)]:
            with self.subTest(paper=paper):
                self.assertIs(self.let(paper), False)
        self.assertIs(shows_puts(self.two, self.one, (number, pairs, first, second)), False)

    def test_each_kind_once_at_most(self):
        one, two = tree_of("st"), tree_of("s", "t")
        self.assertIs(shows_puts(one, two, (0, [(A, A), (A, B)], {A: 2}, {A: 0, B: 0})), False)
        self.assertIs(shows_puts(two, one, (0, [(A, A), (B, A)], {A: 0, B: 0}, {A: 2})), False)
        self.assertIs(shows_puts(two, one, (0, [(A, A), (B, A)], {A: 1, B: 1}, {A: 0})), False)
        self.assertIs(shows_puts(one, two, (1, [(A, B)], {A: 1}, {A: 0, B: 0})), True)

    def test_of_anything(self):
        paper = (2, [(A, B)], {A: 1, B: 0, C: 0}, {A: 0, B: 1, C: 0})
        for thing in strange():
            self.assertIs(self.let(thing), False)
            for at in range(4):
                self.assertIs(self.let(paper[:at] + (thing,) + paper[at + 1:]), False)
            for pairs in [[thing], [(A, B), thing], [(thing, B)], [(A, thing)], [(A, B, thing)], [(A, B), (B, thing)]]:
                self.assertIs(self.let((2, pairs, paper[2], paper[3])), False)
            if thing.__class__ is not int or thing not in (0, 1):
                self.assertIs(self.let((2, paper[1], {A: thing, B: 0, C: 0}, paper[3])), False)
                self.assertIs(self.let((2, paper[1], paper[2], {A: 0, B: 1, C: thing})), False)
            try:
                changed = {A: 1, B: 0, thing: 0}
            except Exception:
                continue
            self.assertIs(self.let((2, paper[1], changed, paper[3])), False)

    def test_all_papers_of_small_prices(self):
        one, two = tree_of("stu", "v"), tree_of("s", "tuv")
        for prices in itertools.product(range(3), repeat=4):
            for pairs in [[], [(A, B)], [(A, A)], [(A, A), (B, B)], [(A, B), (B, A)]]:
                for number in range(5):
                    paper = (number, pairs, dict(zip([A, B], prices)), dict(zip([A, B], prices[2:])))
                    if shows_puts(one, two, paper):
                        self.assertEqual(number, 2)
                        self.assertEqual(sum(prices), 2)


class Page(unittest.TestCase):
    def done(self, one, two, but=()):
        deeds = puts_page(one, two, but=but)
        self.assertIs(type(deeds), list)
        number, pairs, _, _ = fewest_puts(one, two)
        self.assertEqual(sum(len(deed[1]) for deed in deeds), number)
        minds = Minds()
        minds.tell((1, 1), "ann", [("put", one.sheets(kind), kind) for kind in one.nodes(rank=0)])
        minds.tell((2, 1), "ann", deeds)
        self.assertEqual(parcels(minds.tree("ann"), two), parcels(two, one))
        back = {other: kind for kind, other in pairs}
        new = {}
        for word, sheets, kind in deeds:
            self.assertEqual(word, "put")
            self.assertEqual(len({two.kind_of(sheet) for sheet in sheets}), 1)
            other = two.kind_of(sheets[0])
            if other in back:
                self.assertEqual(kind, back[other])
            else:
                new.setdefault(other, kind)
                self.assertEqual(new[other], kind)
        self.assertEqual(len(set(new.values())), len(new))
        for rank, word in new.values():
            self.assertEqual(rank, 0)
            self.assertTrue(is_word(word))
            self.assertNotIn((0, word), one.nodes())
            self.assertNotIn(word, but)
        return deeds

    def test_to_the_first_kind_of_the_pair_or_to_a_new_one(self):
        self.assertEqual(self.done(tree_of("stu", "v"), Tree({E: ["s"], D: ["t", "u", "v"]})), [
            ("put", ["v"], A), ("put", ["s"], C)])
        self.assertEqual(self.done(tree_of("stu", "v"), Tree({E: ["s"], D: ["t", "u", "v"]}), but=["c", "d"])[1][2], E)
        self.assertEqual(self.done(tree_of("st"), tree_of("st")), [])
        self.assertEqual(self.done(tree_of("st"), tree_of("uv")), [])
        self.assertEqual(self.done(Tree(), tree_of("st")), [])
        self.assertEqual(self.done(tree_of("st"), Tree()), [])

    def test_by_names_and_not_changed(self):
        but = ["b"]
        deeds = puts_page(one=tree_of("st"), two=tree_of("s", "t"), but=but)
        self.assertEqual([deed[2] for deed in deeds], [C])
        self.assertEqual(but, ["b"])
        self.assertEqual(puts_page(tree_of("st"), tree_of("s", "t"), but=("b", "c"))[0][2], D)

    def test_many(self):
        chance = random.Random(291)
        sheets = [one + two for one in "stuvw" for two in "vwxyz"]
        for _ in range(100):
            one = some_kinds(chance, sheets[:chance.randint(0, 25)], "abcdefgh"[:chance.randint(1, 8)])
            two = some_kinds(chance, sheets[chance.randint(0, 9):], "abcdefghijkl"[:chance.randint(1, 12)])
            self.done(one, two, but=[word for word in "ikmxyz"])
        each = Tree({(0, sheet): [sheet] for sheet in sheets})
        self.assertEqual(len(self.done(Tree({A: sheets}), each)), 24)
        self.assertEqual(len(self.done(each, Tree({A: sheets}))), 1)


if __name__ == "__main__":
    unittest.main()
