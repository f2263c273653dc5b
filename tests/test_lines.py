import random
import unittest

from kindnames.minds import Minds
from kindnames.trees import Tree
from slow_lines import slow_line, slow_state, some_page
from things import strange

A, B, C, D = (0, "a"), (0, "b"), (0, "c"), (0, "d")
F, G, H = (1, "f"), (1, "g"), (2, "h")


def told(*pages, mind="ann"):
    """A mind's pages, one a day from day 1 on."""
    minds = Minds()
    for at, deeds in enumerate(pages):
        minds.tell((at + 1, 1), mind, deeds)
    return minds


class Trees(unittest.TestCase):
    def tree(self, *pages):
        return told(*pages).tree("ann")

    def test_of_nothing(self):
        self.assertEqual(Minds().tree("ann"), Tree())
        self.assertEqual(self.tree([], []), Tree())

    def test_puts_outs_moves(self):
        self.assertEqual(self.tree([("put", ["s", "t"], A), ("move", A, F), ("move", F, H)]),
                         Tree({A: ["s", "t"]}, {A: F, F: H}))
        self.assertEqual(self.tree([("put", ["s", "t"], A)], [("put", ["s"], B)]), Tree({A: ["t"], B: ["s"]}))
        self.assertEqual(self.tree([("put", ["s", "t"], A)], [("out", ["s", "never"])]), Tree({A: ["t"]}))
        self.assertEqual(self.tree([("put", ["s"], A)], [("out", ["s"])], [("put", ["s"], B)]), Tree({B: ["s"]}))
        self.assertEqual(self.tree([("put", ["s"], A), ("move", A, F)], [("move", A, None)]), Tree({A: ["s"]}))
        self.assertEqual(self.tree([("put", ["s"], A), ("move", A, F)], [("move", A, H)]), Tree({A: ["s"]}, {A: H}))

    def test_joins_lead_to_the_one_born_first(self):
        self.assertEqual(self.tree([("put", ["s"], B)], [("put", ["t"], A)], [("join", A, B)]), Tree({B: ["s", "t"]}))
        self.assertEqual(self.tree([("put", ["s"], B), ("put", ["t"], A)], [("join", B, A)]), Tree({A: ["s", "t"]}))

    def test_joins_in_rows_and_rings(self):
        pages = [[("put", ["s"], C)], [("put", ["t"], D), ("put", ["u"], B)], [("put", ["v"], A)]]
        row = [("join", A, B), ("join", D, B), ("join", D, C)]
        whole = Tree({C: ["s", "t", "u", "v"]})
        self.assertEqual(self.tree(*pages, row), whole)
        self.assertEqual(self.tree(*pages, row + [("join", C, A), ("join", A, D), ("join", A, B)]), whole)
        self.assertEqual(self.tree(*pages, row[:1], row[1:2], row[2:], [("join", A, C)]), whole)
        self.assertEqual(self.tree(*pages, row[:2]), Tree({C: ["s"], B: ["t", "u", "v"]}))

    def test_a_put_to_a_node_that_leads_on(self):
        minds = told([("put", ["s"], A)], [("join", A, B)], [("put", ["t"], B)], [("put", ["u"], C), ("join", B, C)])
        self.assertEqual(minds.tree("ann"), Tree({A: ["s", "t", "u"]}))

    def test_births_then_joins_then_puts_then_moves_whatever_the_order(self):
        deeds = [("move", B, F), ("put", ["s"], B), ("join", A, B), ("move", F, H), ("out", ["t"]), ("join", F, G)]
        tree = Tree({A: ["s"]}, {A: F, F: H})
        chance = random.Random(3)
        for _ in range(30):
            chance.shuffle(deeds)
            self.assertEqual(self.tree([("put", ["t"], A)], list(deeds)), tree)

    def test_what_keepers_lie_in_stays_and_the_others_no_longer_count(self):
        pages = [[("put", ["s"], A), ("move", A, F)], [("put", ["t"], B), ("move", B, G)], [("join", A, B)]]
        self.assertEqual(self.tree(*pages), Tree({A: ["s", "t"]}, {A: F}))
        pages = [[("put", ["s"], A)], [("put", ["t"], B), ("move", B, G)], [("join", A, B)]]
        self.assertEqual(self.tree(*pages), Tree({A: ["s", "t"]}))
        self.assertEqual(self.tree(*pages, [("move", B, F)]), Tree({A: ["s", "t"]}, {A: F}))
        self.assertEqual(self.tree(*pages, [("move", B, F)], [("move", B, None)]), Tree({A: ["s", "t"]}))

    def test_a_move_in_the_page_of_the_join_counts(self):
        pages = [[("put", ["s"], A), ("move", A, F)], [("put", ["t"], B)], [("join", A, B), ("move", B, G)]]
        self.assertEqual(self.tree(*pages), Tree({A: ["s", "t"]}, {A: G}))

    def test_all_that_lies_in_a_node_lies_in_its_keeper(self):
        pages = [[("put", ["s"], A), ("move", A, F)], [("put", ["t"], B), ("move", B, G), ("move", F, H)], [("join", G, F)]]
        self.assertEqual(self.tree(*pages), Tree({A: ["s"], B: ["t"]}, {A: F, B: F, F: H}))
        self.assertEqual(self.tree(*pages, [("put", ["u"], C), ("move", C, G)]).inner(F), [A, B, C])

    def test_of_several_moves_of_one_keeper_that_of_the_first_born_counts(self):
        start = [[("put", ["s"], C)], [("put", ["t"], B), ("put", ["u"], A)], [("join", A, B), ("join", B, C)]]
        for moves, outer in [
                ([("move", B, F), ("move", A, G)], G), ([("move", A, F), ("move", B, G)], F),
                ([("move", A, F), ("move", B, G), ("move", C, H)], H), ([("move", B, None), ("move", C, G)], G),
                ([("move", C, None), ("move", A, G)], None), ([("move", A, None), ("move", B, G)], None),
                ([("move", B, F), ("move", D, G)], F)]:
            for order in (moves, moves[::-1]):
                tree = self.tree(*start, order)
                self.assertEqual(tree, Tree({C: ["s", "t", "u"]}, {C: outer}))

    def test_a_kind_that_is_emptied_lies_and_leads_and_comes_back(self):
        pages = [[("put", ["s"], A), ("move", A, F), ("join", A, B)], [("out", ["s"])]]
        minds = told(*pages)
        self.assertEqual(minds.tree("ann"), Tree())
        self.assertEqual((minds.keeper("ann", B), minds.born("ann", A)), (A, (1, 1)))
        self.assertEqual(self.tree(*pages, [("put", ["t"], B)]), Tree({A: ["t"]}, {A: F}))
        self.assertEqual(self.tree(*pages, [("put", ["t"], C), ("join", B, C)]), Tree({A: ["t"]}, {A: F}))
        self.assertEqual(self.tree(*pages, [("move", A, G)], [("put", ["t"], B)]), Tree({A: ["t"]}, {A: G}))

    def test_a_line_with_what_was_taken(self):
        minds = told([("put", ["s"], A), ("move", A, F)], [("put", ["t"], B)])
        minds.tell((1, 5), "bob", [("put", ["lost"], C)])
        minds.tell((2, 2), "bob", [("take", "ann"), ("put", ["u"], C), ("join", C, A)])
        minds.tell((3, 1), "ann", [("out", ["s", "t"])])
        self.assertEqual(minds.tree("bob"), Tree({A: ["s", "u"], B: ["t"]}, {A: F}))
        self.assertEqual(minds.tree("ann"), Tree())
        self.assertEqual(minds.tree("bob", upto=(2, 1)), Tree({C: ["lost"]}))
        self.assertEqual(minds.born("bob", C), (2, 2))
        self.assertEqual(minds.born("bob", C, upto=(2, 1)), (1, 5))
        self.assertIsNone(minds.keeper("ann", C))

    def test_sheets_called_as_nodes_and_minds_are(self):
        minds = told([("put", ["a", "n", "ann", "f"], A), ("move", A, F)], [("take", "ann"), ("join", A, B)], [("move", A, H)])
        self.assertEqual(minds.tree("ann"), Tree({A: ["a", "ann", "f", "n"]}, {A: H}))

    def test_a_page_told_late_and_dropped_again(self):
        minds = told([("put", ["s"], A)], [("put", ["t"], B)])
        minds.tell((3, 1), "ann", [("join", A, B)])
        self.assertEqual(minds.tree("ann"), Tree({A: ["s", "t"]}))
        minds.tell((0, 1), "ann", [("move", B, F)])
        self.assertEqual(minds.tree("ann"), Tree({B: ["s", "t"]}, {B: F}))
        minds.drop((0, 1))
        self.assertEqual(minds.tree("ann"), Tree({A: ["s", "t"]}))
        minds.drop((3, 1))
        self.assertEqual(minds.tree("ann"), Tree({A: ["s"], B: ["t"]}))


class Keepers(unittest.TestCase):
    def test_born_and_keeper(self):
        minds = told([("take", "x"), ("put", ["s"], B), ("move", D, H)], [("join", A, B), ("out", ["q"])], [("join", F, G)])
        self.assertEqual([minds.born("ann", node) for node in (A, B, D, H, F, G, C)],
                         [(2, 1), (1, 1), (1, 1), (1, 1), (3, 1), (3, 1), None])
        self.assertEqual([minds.keeper("ann", node) for node in (A, B, D, H, F, G, C)], [B, B, D, H, F, F, None])
        self.assertEqual(minds.keeper("ann", A, upto=(1, 9)), None)
        self.assertEqual(minds.keeper(mind="ann", node=G, upto=(3, 1)), F)
        self.assertEqual(minds.born(mind="ann", node=G, upto=(3, 0)), None)
        self.assertIsNone(minds.born("bob", A))

    def test_ranks_of_one_word_are_unlike(self):
        minds = told([("put", ["s"], (0, "f"))])
        self.assertIsNone(minds.born("ann", F))
        for thing in strange():
            self.assertIsNone(minds.keeper("ann", thing))
            self.assertIsNone(minds.born("ann", thing))


class AgainstTheSlowWay(unittest.TestCase):
    def test_many_minds(self):
        chance = random.Random(99)
        for _ in range(120):
            many = chance.randint(1, 14)
            moments = chance.sample([(day, page) for day in range(5) for page in range(1, 5)], many)
            pages = [(moment, chance.choice(["ann", "ann", "bob", "cid"]), some_page(chance)) for moment in moments]
            minds = Minds()
            for page in pages:
                minds.tell(*page)
            minds.tell((2, 9), "ann", [("put", ["zz"], A), ("take", "bob")])
            minds.drop((2, 9))
            self.assertEqual(minds.pages(), sorted(pages))
            for upto in [None, (2, 0), (3, 2)]:
                there = [page for page in pages if upto is None or page[0] <= upto]
                for mind in ("ann", "bob", "cid"):
                    line = slow_line(there, mind, None)
                    born, keepers, tree = slow_state(line)
                    self.assertEqual(minds.line(mind, upto=upto), [page[0] for page in line])
                    self.assertEqual(minds.tree(mind, upto=upto), tree)
                    for node in [(rank, word) for rank in range(3) for word in "abcd"]:
                        self.assertEqual(minds.keeper(mind, node, upto=upto), keepers.get(node))
                        self.assertEqual(minds.born(mind, node, upto=upto), born.get(node))


if __name__ == "__main__":
    unittest.main()
