import itertools
import random
import unittest

from kindnames.minds import Minds
from kindnames.trees import Tree
from kindnames.ways import least_way, shows_way, way_pages
from kindnames.words import is_word
from things import strange

A, B, C, D, E = [(0, word) for word in "abcde"]


def tree_of(*rows):
    """A tree of kinds a, b, c, .. with the letters of the rows as sheets."""
    return Tree({(0, "abcdefgh"[at]): list(row) for at, row in enumerate(rows) if row})


def parcels(tree, other):
    cut = [tuple(sheet for sheet in tree.sheets(kind) if other.kind_of(sheet)) for kind in tree.nodes(rank=0)]
    return frozenset(parcel for parcel in cut if parcel)


def steps_from(standing):
    for one, two in itertools.permutations(sorted(standing), 2):
        yield ("join", one, two), standing - {one, two} | {tuple(sorted(one + two))}
    for parcel in standing:
        for many in range(1, len(parcel)):
            for piece in itertools.combinations(parcel, many):
                rest = tuple(sheet for sheet in parcel if sheet not in piece)
                yield ("part", parcel, piece), standing - {parcel} | {piece, rest}


def done(standing, step):
    """The parcels behind a step, which can be done on those that stand."""
    word, parcel, other = step
    assert parcel in standing and parcel != other
    if word == "join":
        assert other in standing
        return standing - {parcel, other} | {tuple(sorted(parcel + other))}
    assert set(other) < set(parcel) and other
    return standing - {parcel} | {other, tuple(sorted(set(parcel) - set(other)))}


def fewest(start, goal):
    """The least number of steps, by trying all."""
    seen, front, many = {start}, {start}, 0
    while goal not in seen:
        front = {after for standing in front for _, after in steps_from(standing)} - seen
        seen |= front
        many += 1
    return many


def some_kinds(chance, sheets, words="abc"):
    kinds = {}
    for sheet in sheets:
        kinds.setdefault((0, chance.choice(words)), []).append(sheet)
    return Tree(kinds)


class Least(unittest.TestCase):
    def told(self, one, two):
        number, steps = least_way(one, two)
        self.assertEqual(number, len(steps))
        self.assertIs(shows_way(one, two, steps), True)
        standing = parcels(one, two)
        for step in steps:
            self.assertIs(type(step), tuple)
            self.assertTrue(all(list(part) == sorted(part) and type(part) is tuple for part in step[1:]))
            standing = done(standing, step)
        self.assertEqual(standing, parcels(two, one))
        return number

    def test_trees_alike_and_of_no_kinds(self):
        one = tree_of("st", "u")
        self.assertEqual(least_way(one, one), (0, []))
        self.assertEqual(least_way(one, Tree({E: ["u"], D: ["s", "t"]})), (0, []))
        self.assertEqual(least_way(Tree(), Tree()), (0, []))
        self.assertEqual(least_way(one, Tree()), (0, []))
        self.assertEqual(least_way(Tree(), one), (0, []))

    def test_sheets_that_one_places_alone(self):
        self.assertEqual(least_way(tree_of("st", "ux"), tree_of("sty", "u", "z")), (0, []))
        self.assertEqual(least_way(tree_of("st", "xy"), tree_of("zq", "s", "t"))[0], 1)
        self.assertEqual(least_way(tree_of("s", "xy"), tree_of("x", "yt"))[1], [("part", ("x", "y"), ("x",))])

    def test_joins_and_partings(self):
        self.assertEqual(self.told(tree_of("s", "t", "u"), tree_of("stu")), 2)
        self.assertEqual(self.told(tree_of("stu"), tree_of("s", "t", "u")), 2)
        self.assertEqual(self.told(tree_of("st", "uv"), tree_of("su", "tv")), 2)
        self.assertEqual(self.told(tree_of("st", "uv"), tree_of("s", "tuv")), 2)
        self.assertEqual(self.told(tree_of("st", "uv", "wx"), tree_of("s", "t", "u", "v", "wx")), 2)
        self.assertEqual(self.told(tree_of("stu", "vwx", "yz"), tree_of("sv", "tw", "uxyz")), 4)

    def test_beside_trying_all_ways(self):
        chance = random.Random(28)
        numbers = {}
        for _ in range(60):
            one, two = some_kinds(chance, "stuvwx"[:chance.randint(2, 6)], "abcd"), some_kinds(chance, "stuvw", "abcd")
            number = self.told(one, two)
            self.assertEqual(number, fewest(parcels(one, two), parcels(two, one)))
            numbers[number] = True
        self.assertGreater(len(numbers), 4)

    def test_thirty_sheets(self):
        sheets = [one + two for one in "abcde" for two in "uvwxyz"]
        one, two = Tree({A: sheets}), Tree({(0, sheet): [sheet] for sheet in sheets})
        self.assertEqual(self.told(one, two), 29)
        self.assertEqual(self.told(two, one), 29)

    def test_told_steps_may_be_changed_and_by_names(self):
        one, two = tree_of("st"), tree_of("s", "t")
        least_way(one=one, two=two)[1].clear()
        self.assertEqual(least_way(one, two)[0], 1)
        self.assertIs(shows_way(one=one, two=two, steps=[]), False)


class Look(unittest.TestCase):
    def setUp(self):
        self.one, self.two = tree_of("st", "uv", "x"), tree_of("su", "tv", "y")
        self.way = [("join", ("s", "t"), ("u", "v")), ("part", ("s", "t", "u", "v"), ("s", "u"))]

    def let(self, steps):
        return shows_way(self.one, self.two, steps)

    def test_both_orders_and_both_parts(self):
        for join in [("join", ("s", "t"), ("u", "v")), ("join", ("u", "v"), ("s", "t"))]:
            for piece in [("s", "u"), ("t", "v")]:
                self.assertIs(self.let([join, ("part", ("s", "t", "u", "v"), piece)]), True)
                self.assertIs(self.let((join, ("part", ("s", "t", "u", "v"), piece))), True)

    def test_longer_ways(self):
        long = [("part", ("s", "t"), ("s",)), ("part", ("u", "v"), ("u",)), ("join", ("s",), ("u",)), ("join", ("v",), ("t",))]
        self.assertIs(self.let(long), True)
        back = [("part", ("s", "u"), ("u",)), ("join", ("s",), ("u",))]
        self.assertIs(self.let(self.way + back), True)
        self.assertIs(self.let(self.way + back[:1]), False)

    def test_one_thing_otherwise(self):
        join, part = self.way
        for steps in [
                [], [join], [part], [part, join], [join, join, part], [join, part, part],
                [join, ("part", ("s", "t", "u", "v"), ("s", "t"))], [join, ("part", ("s", "t", "u", "v"), ("s",))],
                [join, ("part", ("s", "t", "u", "v"), ("s", "t", "u", "v"))], [join, ("part", ("s", "t", "u", "v"), ())],
                [join, ("part", ("s", "t", "u", "v"), ("u", "s"))], [join, ("part", ("s", "t", "u", "v"), ("s", "s"))],
                [join, ("part", ("s", "t", "u", "v"), ("s", "x"))], [join, ("part", ("s", "t", "u", "v"), ["s", "u"])],
                [join, ("part", ["s", "t", "u", "v"], ("s", "u"))], [join, ("part", ("s", "t", "v", "u"), ("s", "u"))],
                [join, ("part", ("s", "t", "u", "v"), "su")], [join, ("part", "stuv", ("s", "u"))],
                [join, ("part", ("s", "t"), ("s",))], [join, ("part", ("s", "t", "u", "v"))], [join, part + (None,)],
                [join, list(part)], [list(join), part], [("join", ("s", "t"), ["u", "v"]), part],
                [("join", ["s", "t"], ("u", "v")), part], [("join", ("s", "t"), ("v", "u")), part],
                [("join", ("s", "t"), ("s", "t")), part], [("join", ("s", "t"), ("u",)), part], [("join", ("s",), ("u",)), part],
                [("join", ("s", "t"), ("u", "v"), ()), part], [("Join", ("s", "t"), ("u", "v")), part],
                [("join", ("s", "t"), ("x",)), part], [("join", ("s", "t"), ("y",)), part], [("part", ("s", "t"), ("u", "v")), part],
                [join, ("join", ("s", "t", "u", "v"), ("s", "u"))], {join: part}, "", None, iter(self.way)]:
            with self.subTest(steps=steps):
                self.assertIs(self.let(steps), False)
        self.assertIs(self.let(self.way), True)
        self.assertIs(shows_way(self.two, self.one, self.way), False)

    def test_steps_that_cannot_be_done_though_they_lead_on_to_the_goal(self):
        whole = ("s", "t", "u", "v")
        back = ("join", ("s", "u"), ("t", "v"))
        for steps in [
                [("part", whole, ()), ("join", whole, ())], [("part", whole, whole), ("join", whole, ())],
                [("part", whole, ("u", "s")), ("join", ("u", "s"), ("t", "v"))], [("join", whole, ())],
                [("part", whole, ("t", "v")), ("join", ("t", "v"), ("u", "s"))],
                [("join", whole, whole), ("part", ("s", "s", "t", "t", "u", "u", "v", "v"), whole), ("join", whole, ())],
                [("part", whole, ("s", "s", "u")), ("part", ("s", "s", "u"), ("u",)), ("part", ("s", "s"), ("s",)),
                 ("join", ("s",), ()), ("join", ("s",), ("u",)), back]]:
            with self.subTest(steps=steps):
                self.assertIs(shows_way(tree_of("stuv"), tree_of("stuv"), steps), False)
        self.assertIs(shows_way(tree_of("stuv"), tree_of("stuv"), [("part", whole, ("s", "u")), back]), True)

    def test_of_anything(self):
        same = tree_of("s", "t")
        for thing in strange():
            self.assertIs(self.let(thing), False)
            self.assertIs(shows_way(same, same, thing), isinstance(thing, (list, tuple)) and len(thing) == 0)
            self.assertIs(self.let([thing] + self.way), False)
            self.assertIs(self.let(self.way + [thing]), False)
            for at, step in enumerate(self.way):
                for part in range(3):
                    changed = step[:part] + (thing,) + step[part + 1:]
                    self.assertIs(self.let(self.way[:at] + [changed] + self.way[at + 1:]), False)
            self.assertIs(self.let([self.way[0], ("part", self.way[1][1], ("s", thing))]), False)
            self.assertIs(self.let([("join", ("s", "t"), ("u", thing)), self.way[1]]), False)

    def test_every_step_that_could_be_told(self):
        chance = random.Random(280)
        for _ in range(60):
            one, two = some_kinds(chance, "stuv"), some_kinds(chance, "stuv")
            standing, steps = parcels(one, two), []
            for _ in range(chance.randint(0, 5)):
                let = dict(steps_from(standing))
                if let:
                    steps.append(chance.choice(sorted(let)))
                    standing = let[steps[-1]]
                self.assertIs(shows_way(one, two, steps), standing == parcels(two, one))


class Pages(unittest.TestCase):
    def done(self, one, two, steps, minds, mind, but=()):
        """The pages are told to a mind whose kinds are the first tree's, and then lie as the second's."""
        pages = way_pages(one, steps, but=but)
        self.assertEqual(minds.tree(mind).nodes(rank=0), one.nodes(rank=0))
        self.assertEqual([type(page) for page in pages], [list] * len(steps))
        new = []
        for step, page in zip(steps, pages):
            self.assertEqual(len(page), 1)
            self.assertEqual(page[0][0], "join" if step[0] == "join" else "put")
            if step[0] == "part":
                self.assertEqual(page[0][1], list(step[2]))
                new.append(page[0][2])
        self.assertEqual(len(set(new)), len(new))
        for node in new:
            self.assertEqual(node[0], 0)
            self.assertTrue(is_word(node[1]))
            self.assertNotIn(node, one.nodes())
            self.assertNotIn(node[1], but)
            self.assertIsNone(minds.keeper(mind, node))
        for at, page in enumerate(pages):
            minds.tell((50, at + 1), mind, page)
        self.assertEqual(parcels(minds.tree(mind), two), parcels(two, one))
        return pages

    def minds_of(self, one):
        minds = Minds()
        minds.tell((1, 1), "ann", [("put", one.sheets(kind), kind) for kind in one.nodes(rank=0)])
        return minds

    def test_a_join_and_a_part(self):
        one, two = tree_of("st", "uv", "x"), tree_of("su", "tv", "y")
        steps = least_way(one, two)[1]
        pages = self.done(one, two, steps, self.minds_of(one), "ann")
        self.assertEqual(pages[0], [("join", A, B)])
        self.assertEqual(way_pages(one, [], but=["a"]), [])
        self.assertEqual(way_pages(one=one, steps=tuple(steps), but=()), pages)

    def test_sheets_that_the_second_does_not_place_stay(self):
        one, two = tree_of("stx", "uvy"), tree_of("su", "t", "v")
        minds = self.minds_of(one)
        self.done(one, two, least_way(one, two)[1], minds, "ann")
        self.assertEqual(minds.tree("ann").sheets(), ["s", "t", "u", "v", "x", "y"])

    def test_in_a_mind_with_nodes_joined_and_born_otherwise(self):
        minds = Minds()
        minds.tell((1, 1), "ann", [("put", ["s", "t"], D), ("move", E, (1, "f"))])
        minds.tell((2, 1), "ann", [("put", ["u"], B), ("put", ["v"], A), ("join", B, C), ("put", ["w"], (0, "f"))])
        minds.tell((3, 1), "ann", [("join", D, A), ("out", ["w"]), ("join", (0, "g"), (0, "h"))])
        one = minds.tree("ann")
        self.assertEqual(one, Tree({B: ["u"], D: ["s", "t", "v"]}))
        two = tree_of("s", "tu", "v")
        steps = least_way(one, two)[1]
        self.done(one, two, steps, minds, "ann", but=["a", "c", "e", "f", "g", "h"])
        # Without those words a new kind would be one that is born in the mind already.
        self.assertEqual([page[0][2] for page in way_pages(one, steps) if page[0][0] == "put"], [A, C])

    def test_words_handed_in_under_but(self):
        one, two = tree_of("stu"), tree_of("s", "t", "u")
        steps = least_way(one, two)[1]
        but = [word for word in "bcdefghijklmnopqrstuvwxyz"] + ["aa", "ab", "ad"]
        for words in [but, tuple(but)]:
            pages = way_pages(one, steps, but=words)
            new = [page[0][2][1] for page in pages]
            self.assertEqual(len(set(new)), 2)
            self.assertFalse(set(new) & set(but + ["a"]))
        self.assertEqual(but[-1], "ad")
        self.assertEqual(len(but), 28)

    def test_thirty_sheets_into_thirty_and_back(self):
        sheets = [one + two for one in "abcde" for two in "uvwxyz"]
        one = Tree({A: sheets})
        two = Tree({(0, sheet): [sheet] for sheet in sheets})
        self.done(one, two, least_way(one, two)[1], self.minds_of(one), "ann")
        self.done(one, two, least_way(one, two)[1], self.minds_of(one), "ann", but=[word for word in "bcdefgh"])
        self.done(two, one, least_way(two, one)[1], self.minds_of(two), "ann")
        words = Tree({(0, word): [word] for word in "abcdefghijklmnopqrstuvwxyz"})
        whole = Tree({A: words.sheets()})
        self.done(whole, words, least_way(whole, words)[1], self.minds_of(whole), "ann")

    def test_any_ways(self):
        chance = random.Random(281)
        for _ in range(80):
            one, two = some_kinds(chance, "stuvwx"[:chance.randint(2, 6)], "abcd"), some_kinds(chance, "stuvy")
            minds = self.minds_of(one)
            standing, steps = parcels(one, two), []
            for _ in range(chance.randint(0, 6)):
                let = dict(steps_from(standing))
                if let:
                    steps.append(chance.choice(sorted(let)))
                    standing = let[steps[-1]]
            # From wherever these come to on to the second's parcels.
            between = Tree({(0, "k" + "abcdefgh"[at]): list(parcel) for at, parcel in enumerate(sorted(standing))})
            steps += least_way(between, two)[1]
            self.assertIs(shows_way(one, two, steps), True)
            self.done(one, two, steps, minds, "ann")


if __name__ == "__main__":
    unittest.main()
