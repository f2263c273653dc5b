import itertools
import random
import unittest

from kindnames.errors import NoNode
from kindnames.lies import shows_lies, shows_one, why_lies, why_one
from kindnames.minds import Minds
from slow_lines import slow_group, slow_line, slow_state, some_page
from things import refusal, strange

A, B, C, D, E = [(0, word) for word in "abcde"]
F, G = (1, "f"), (1, "g")


def some_minds():
    """a, b, c, d in a ring of joins; e alone; f and g one."""
    minds = Minds()
    minds.tell((1, 1), "ann", [("put", ["s", "t"], A), ("put", ["w"], E), ("move", A, F)])
    minds.tell((2, 1), "ann", [("put", ["u"], B), ("join", B, C)])
    minds.tell((3, 1), "ann", [("join", A, B), ("put", ["s"], C), ("out", ["t"])])
    minds.tell((4, 1), "ann", [("join", D, C), ("join", A, D), ("join", F, G), ("put", ["v"], D)])
    minds.tell((5, 1), "bob", [("join", A, E), ("put", ["s"], E)])
    return minds


class Lies(unittest.TestCase):
    def setUp(self):
        self.minds = some_minds()

    def let(self, sheet, paper, upto=None):
        return shows_lies(self.minds, "ann", sheet, paper, upto=upto)

    def told(self, sheet, upto=None):
        paper = why_lies(self.minds, "ann", sheet, upto=upto)
        self.assertIs(self.let(sheet, paper, upto), True)
        return paper

    def test_put_and_never_led_on(self):
        self.assertEqual(self.told("w"), ("lies", (1, 1), E, []))
        self.assertEqual(self.told("s", (1, 1)), ("lies", (1, 1), A, []))
        self.assertEqual(self.told("s", (2, 9)), ("lies", (1, 1), A, []))

    def test_put_again(self):
        paper = self.told("s")
        self.assertEqual(paper[:3], ("lies", (3, 1), C))
        self.assertEqual(self.told("s", (3, 1)), ("lies", (3, 1), C, [((2, 1), C, B), ((3, 1), B, A)]))

    def test_up_to_ahead_of_a_take_the_line_is_another_one(self):
        self.minds.tell((6, 1), "ann", [("take", "bob")])
        self.assertEqual(self.told("s"), ("lies", (5, 1), E, [((5, 1), E, A)]))
        self.assertEqual(self.told("u"), ("nowhere", None))
        self.assertEqual(self.told("u", (5, 9)), ("lies", (2, 1), B, [((3, 1), B, A)]))
        self.assertEqual(why_one(self.minds, "ann", F, G, upto=(5, 9)), ("one", [((4, 1), F, G)]))
        refusal(self, NoNode, why_one, self.minds, "ann", F, G)

    def test_sheets_called_as_nodes_and_minds_are(self):
        self.minds.tell((6, 1), "ann", [("put", ["a", "n", "ann", "f"], E)])
        self.minds.tell((7, 1), "ann", [("take", "ann"), ("join", A, E), ("move", F, None)])
        for sheet in ["a", "n", "ann", "f"]:
            self.assertEqual(self.told(sheet), ("lies", (6, 1), E, [((7, 1), E, A)]))

    def test_put_to_what_leads_on(self):
        self.assertEqual(self.told("u", (2, 1)), ("lies", (2, 1), B, []))
        self.assertEqual(self.told("u"), ("lies", (2, 1), B, [((3, 1), B, A)]))
        self.assertEqual(self.told("v"), ("lies", (4, 1), D, [((4, 1), D, A)]))

    def test_out_and_never_told(self):
        self.assertEqual(self.told("t"), ("nowhere", (3, 1)))
        self.assertEqual(self.told("z"), ("nowhere", None))
        self.assertEqual(self.told("v", (4, 0)), ("nowhere", None))
        self.assertEqual(why_lies(self.minds, "nobody", "s"), ("nowhere", None))
        self.assertEqual(why_lies(self.minds, mind="bob", sheet="s", upto=None), ("lies", (5, 1), E, [((5, 1), E, A)]))

    def test_all_links_that_lead_there_are_let_by(self):
        ways = [
            [((2, 1), C, B), ((3, 1), B, A)],
            [((4, 1), C, D), ((4, 1), D, A)],
            [((2, 1), C, B), ((2, 1), B, C), ((4, 1), C, D), ((4, 1), D, A)],
            [((2, 1), C, B), ((3, 1), B, A), ((4, 1), A, D), ((4, 1), D, A)]]
        for links in ways:
            self.assertIs(self.let("s", ("lies", (3, 1), C, links)), True)
            self.assertIs(self.let("s", ("lies", (3, 1), C, tuple(links))), True)
        self.assertIs(self.let("w", ("lies", (1, 1), E, [])), True)
        self.assertIs(self.let("w", ("lies", (1, 1), E, ())), True)

    def test_links_there_and_back_for_none(self):
        minds = Minds()
        minds.tell((1, 1), "ann", [("put", ["s"], A), ("join", A, B)])
        for links in [[], [((1, 1), A, B), ((1, 1), B, A)]]:
            self.assertIs(shows_lies(minds, "ann", "s", ("lies", (1, 1), A, links)), True)
        self.assertIs(shows_lies(minds, "ann", "s", ("lies", (1, 1), A, [((1, 1), A, B)])), False)

    def test_links_that_do_not_lead_there(self):
        ways = [
            [], [((2, 1), C, B)], [((3, 1), B, A)], [((3, 1), B, A), ((2, 1), C, B)], [((3, 1), C, B), ((3, 1), B, A)],
            [((2, 1), C, B), ((2, 1), B, A)], [((2, 1), C, A)], [((3, 1), C, A)], [((2, 1), B, C), ((3, 1), A, B)],
            [((2, 1), C, B), ((3, 1), B, A), ((4, 1), A, D)], [((2, 1), C, B), ((3, 1), A, B)],
            [((2, 1), C, B), ((3, 1), B, A), ((5, 1), A, E)], [((9, 1), C, B), ((3, 1), B, A)],
            [[(2, 1), C, B], [(3, 1), B, A]], [((2, 1), C, B), ((3, 1), B, A, A)], [((2, 1), C), ((3, 1), B, A)],
            [(C, B), (B, A)], [([2, 1], C, B), ((3, 1), B, A)], [((2, 1), [0, "c"], B), ((3, 1), B, A)],
            [((2, 1), (False, "c"), B), ((3, 1), B, A)], [((2, True), C, B), ((3, 1), B, A)],
            [((2, 1), C, (0.0, "b")), ((3, 1), B, A)], [((2, 1), C, B), ((3, 1), B, A), None], {((3, 1), C, A): True}]
        for links in ways:
            with self.subTest(links=links):
                self.assertIs(self.let("s", ("lies", (3, 1), C, links)), False)

    def test_joins_behind_the_upto_are_none_of_the_line(self):
        paper = ("lies", (3, 1), C, [((4, 1), C, D), ((4, 1), D, A)])
        self.assertIs(self.let("s", paper), True)
        self.assertIs(self.let("s", paper, (3, 9)), False)

    def test_one_thing_otherwise(self):
        links = [((2, 1), C, B), ((3, 1), B, A)]
        for paper in [
                ("lies", (1, 1), C, links), ("lies", (3, 1), A, []), ("lies", (3, 1), B, links[1:]), ("lie", (3, 1), C, links),
                ["lies", (3, 1), C, links], ("lies", (3, 1), C), ("lies", (3, 1), C, links, links), ("lies", None, C, links),
                ("lies", [3, 1], C, links), ("lies", (3, True), C, links), ("lies", (3, 1), [0, "c"], links),
                ("lies", (3, 1), (False, "c"), links), ("nowhere", (3, 1)), ("nowhere", None), ("lies", (1, 1), A, []),
                (b"lies", (3, 1), C, links), ("lies", (3, 1), None, links)]:
            with self.subTest(paper=paper):
                self.assertIs(self.let("s", paper), False)
        for paper in [("nowhere", None), ("nowhere", (1, 1)), ["nowhere", (3, 1)], ("nowhere",), ("nowhere", (3, 1), []),
                      ("nowhere", [3, 1]), ("nowhere", (3, True)), ("nowhere", (3.0, 1)), ("lies", (1, 1), A, []),
                      ("lies", (3, 1), None, []), ("Nowhere", (3, 1))]:
            with self.subTest(paper=paper):
                self.assertIs(self.let("t", paper), False)
        for paper in [("nowhere", (3, 1)), ("nowhere", False), ("nowhere", ()), ("nowhere", (None,)), ("lies", None, None, [])]:
            with self.subTest(paper=paper):
                self.assertIs(self.let("z", paper), False)

    def test_of_anything(self):
        for sheet, paper in [("s", self.told("s")), ("t", self.told("t")), ("z", self.told("z"))]:
            for thing in strange():
                self.assertIs(self.let(sheet, thing), False)
                for at in range(len(paper)):
                    other = paper[:at] + (thing,) + paper[at + 1:]
                    if not (thing is None and paper[at] is None):
                        self.assertIs(self.let(sheet, other), False)
        for thing in strange():
            self.assertIs(self.let("u", ("lies", (2, 1), B, [thing])), False)
            for link in [(thing, B, A), ((3, 1), thing, A), ((3, 1), B, thing), ((3, 1), B, A, thing)]:
                self.assertIs(self.let("u", ("lies", (2, 1), B, [link])), False)

    def test_told_links_may_be_changed(self):
        paper = self.told("u")
        paper[3].clear()
        self.assertIs(self.let("u", paper), False)
        self.assertEqual(self.told("u"), ("lies", (2, 1), B, [((3, 1), B, A)]))


class One(unittest.TestCase):
    def setUp(self):
        self.minds = some_minds()

    def let(self, node, other, paper, upto=None):
        return shows_one(self.minds, "ann", node, other, paper, upto=upto)

    def told(self, node, other, upto=None):
        paper = why_one(self.minds, "ann", node, other, upto=upto)
        self.assertIs(self.let(node, other, paper, upto), True)
        return paper

    def test_one_by_several_joins(self):
        self.assertEqual(self.told(C, A, (3, 1)), ("one", [((2, 1), C, B), ((3, 1), B, A)]))
        self.assertEqual(self.told(A, C, (3, 1)), ("one", [((3, 1), A, B), ((2, 1), B, C)]))
        self.assertEqual(self.told(F, G), ("one", [((4, 1), F, G)]))
        self.assertEqual(self.told(A, A), ("one", []))
        for node, other in itertools.product([A, B, C, D], repeat=2):
            self.assertEqual(self.told(node, other)[0], "one")

    def test_apart(self):
        self.assertEqual(self.told(A, E), ("apart", [A, B, C, D]))
        self.assertEqual(self.told(E, A), ("apart", [E]))
        self.assertEqual(self.told(F, A), ("apart", [F, G]))
        self.assertEqual(self.told(A, C, (2, 1)), ("apart", [A]))
        self.assertEqual(self.told(C, A, (2, 1)), ("apart", [B, C]))

    def test_all_such_nodes_are_let_by(self):
        for nodes in [[A, B, C, D], (A, B, C, D), [A, B, C, D, F, G], [A, B, C, D, (0, "z")], [A, B, C, D, (5, "never")],
                      [A, (0, "aa"), B, C, D], [A, B, C, D, (0, "zz"), F, G, (4, "z")]]:
            self.assertIs(self.let(A, E, ("apart", nodes)), True)
        for nodes in [[], [A], [A, B, C], [B, C, D], [A, B, C, D, E], [A, B, C, D, F], [A, B, C, D, G], [B, A, C, D],
                      [A, A, B, C, D], [A, B, C, D, D], {A: 1, B: 1, C: 1, D: 1}, [A, B, C, list(D)], [A, B, C, (False, "d")],
                      [A, B, C, D, (6, "z")], [A, B, C, D, None], [A, B, C, D, (0, "Z")], [E], None]:
            with self.subTest(nodes=nodes):
                self.assertIs(self.let(A, E, ("apart", nodes)), False)

    def test_one_and_apart_are_never_both(self):
        for node, other in itertools.product([A, B, C, D, E, F, G], repeat=2):
            word = self.told(node, other)[0]
            for many in range(8):
                for nodes in itertools.combinations([A, B, C, D, E, F, G], many):
                    if self.let(node, other, ("apart", list(nodes))):
                        self.assertEqual(word, "apart")

    def test_one_thing_otherwise(self):
        links = [((2, 1), C, B), ((3, 1), B, A)]
        self.assertIs(self.let(C, A, ("one", links)), True)
        self.assertIs(self.let(C, A, ("one", tuple(links))), True)
        self.assertIs(self.let(C, C, ("one", [((2, 1), C, B), ((2, 1), B, C)])), True)
        for paper in [("one", []), ("one", links[:1]), ("one", links[1:]), ("one", links[::-1]), ["one", links], ("one",),
                      ("one", links, links), ("apart", links), ("apart", [C]), ("One", links), ("one", None),
                      ("one", [((1, 1), C, B), ((3, 1), B, A)]), ("one", [((2, 1), C, A)]), ("apart", [B, C]),
                      ("one", [((3, 1), A, B), ((2, 1), B, C)]), ("one", links + [((5, 1), A, E)])]:
            with self.subTest(paper=paper):
                self.assertIs(self.let(C, A, paper), False)
        self.assertIs(self.let(A, E, ("one", [((5, 1), A, E)])), False)
        self.assertIs(shows_one(self.minds, "bob", A, E, ("one", [((5, 1), A, E)])), True)

    def test_of_anything(self):
        for node, other in [(C, A), (A, E)]:
            paper = self.told(node, other)
            for thing in strange():
                self.assertIs(self.let(node, other, thing), False)
                self.assertIs(self.let(node, other, (thing, paper[1])), False)
                self.assertIs(self.let(node, other, (paper[0], thing)), False)
                self.assertIs(self.let(node, other, (*paper, thing)), False)
                self.assertIs(self.let(node, other, ("one", [thing])), False)
                self.assertIs(self.let(node, other, ("apart", [A, B, C, D, thing])), False)

    def test_no_node_of_what_is_not_born_the_first_first(self):
        z, y = (0, "z"), (0, "y")
        for call, more in [(why_one, ()), (shows_one, (("one", []),)), (shows_one, (None,)), (shows_one, (("apart", [z]),))]:
            for node, other, first in [(z, A, z), (A, z, z), (z, y, z), (y, z, y), (z, z, z), ((1, "a"), A, (1, "a"))]:
                self.assertEqual(refusal(self, NoNode, call, self.minds, "ann", node, other, *more).node, first)
            self.assertEqual(refusal(self, NoNode, call, self.minds, "ann", D, A, *more, upto=(3, 9)).node, D)
            self.assertEqual(refusal(self, NoNode, call, self.minds, "nobody", D, A, *more).node, D)
            for thing in strange():
                self.assertIs(refusal(self, NoNode, call, self.minds, "ann", A, thing, *more).node, thing)


class ManyJoins(unittest.TestCase):
    """Fourteen pages of two minds, each joining one kind to five others, every fourth taking the other mind."""

    def setUp(self):
        self.pages = []
        for k in range(14):
            deeds = [("join", (0, "abcdef"[k % 6]), (0, "abcdef"[(k + more) % 6])) for more in range(1, 6)]
            if k % 4 == 3:
                deeds.append(("take", "ba"[k % 2]))
            self.pages.append(((k, 1), "ab"[k % 2], tuple(deeds)))
        self.minds = Minds()
        for page in self.pages:
            self.minds.tell(*page)

    def test_told_papers(self):
        self.assertEqual(why_one(self.minds, "a", A, (0, "f")), ("one", [((0, 1), A, (0, "f"))]))
        self.assertEqual(why_one(self.minds, "b", A, (0, "f"), upto=(2, 9)), ("one", [((1, 1), A, B), ((1, 1), B, (0, "f"))]))
        told = why_one(self.minds, "b", A, (0, "f"))
        self.assertEqual(told, ("one", [((0, 1), A, (0, "f"))]))
        self.assertEqual(refusal(self, NoNode, why_one, self.minds, "b", A, B, upto=(0, 9)).node, A)
        self.assertEqual(refusal(self, NoNode, why_one, self.minds, "a", A, (0, "g")).node, (0, "g"))

    def test_all_pairs_and_eight_papers_of_each(self):
        nodes = [(0, word) for word in "abcdef"]
        for upto in [None, (3, 1), (6, 9), (11, 0)]:
            for mind in "ab":
                line = slow_line([page for page in self.pages if upto is None or page[0] <= upto], mind, None)
                joins = [(page[0], *deed[1:]) for page in line for deed in page[2] if deed[0] == "join"]
                joins = joins + [(moment, other, node) for moment, node, other in joins]
                for node, other in itertools.product(nodes, repeat=2):
                    word, links = why_one(self.minds, mind, node, other, upto=upto)
                    self.assertEqual(word, "one")
                    back = [link for link in joins if link[1] == other]
                    papers = [(word, links), (word, tuple(links)), (word, links + [back[-1], (back[-1][0], *back[-1][:0:-1])]),
                              (word, links[1:]), (word, links + back[:1]), (word, [((14, 1), node, other)]),
                              ("apart", [node]), ("apart", nodes)]
                    for paper in papers:
                        self.assertIs(shows_one(self.minds, mind, node, other, paper, upto=upto),
                                      self.slow_look(joins, node, other, paper))

    def slow_look(self, joins, node, other, paper):
        if paper[0] == "apart":
            return False
        at = node
        for link in paper[1]:
            if link not in joins or link[1] != at:
                return False
            at = link[2]
        return at == other

    def test_sheets_put_and_led_on(self):
        self.minds.tell((2, 2), "a", [("put", ["s"], (0, "f"))])
        self.assertEqual(why_lies(self.minds, "a", "s"), ("lies", (2, 2), (0, "f"), [((0, 1), (0, "f"), A)]))
        self.assertEqual(why_lies(self.minds, "b", "s"), ("lies", (2, 2), (0, "f"), [((0, 1), (0, "f"), A)]))
        for mind in "ab":
            self.assertIs(shows_lies(self.minds, mind, "s", why_lies(self.minds, mind, "s")), True)


class Many(unittest.TestCase):
    def test_papers_of_many_minds(self):
        chance = random.Random(18)
        for _ in range(40):
            pages = [((day, 1), chance.choice(["ann", "bob"]), some_page(chance)) for day in range(chance.randint(1, 10))]
            minds = Minds()
            for page in pages:
                minds.tell(*page)
            line = slow_line(pages, "ann", None)
            born, _, tree = slow_state(line)
            joins = [deed[1:] for page in line for deed in page[2] if deed[0] == "join"]
            for sheet in "abcdnoi":
                paper = why_lies(minds, "ann", sheet)
                self.assertIs(shows_lies(minds, "ann", sheet, paper), True)
                self.assertEqual(paper[0] == "lies", tree.kind_of(sheet) is not None)
                if paper[0] == "lies":
                    at = paper[3][-1][2] if paper[3] else paper[2]
                    self.assertEqual(at, tree.kind_of(sheet))
            for node, other in itertools.product(born, repeat=2):
                paper = why_one(minds, "ann", node, other)
                self.assertIs(shows_one(minds, "ann", node, other, paper), True)
                self.assertEqual(paper[0] == "one", other in slow_group(joins, node))


if __name__ == "__main__":
    unittest.main()
