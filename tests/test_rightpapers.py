import itertools
import random
import unittest

from kindnames.errors import NoNode
from kindnames.right import right, why_not
from kindnames.rightpapers import right_paper, shows_right
from kindnames.trees import Tree
from slow_right import names, slow_fit, some_records, some_tree
from things import book_of, refusal, strange

A, B = (0, "a"), (0, "b")
F, H = (1, "f"), (2, "h")


def some_book():
    """(1, 1) elsewhere and struck twice; (2, 1) taken, barred; (3, 1) gives way twice; (4, 1) right; (6, 1) set ahead of it."""
    book = names(("x one", ["u", "v", "s"]), ("y one", "t"), ("y one", "s"), ("x two", "s"), ("x three", "s"),
                 ("x four", "su"), ("x five", "s"))
    book.strike((8, 1), (1, 1))
    book.strike((8, 2), (1, 1), whole=True)
    book.strike((8, 3), (2, 1))
    book.ahead((9, 1), (4, 1), (3, 1))
    book.ahead((9, 2), (6, 1), (4, 1))
    book.ahead((9, 3), (5, 1), (4, 1))
    book.strike((9, 4), (5, 1))
    return book


class Papers(unittest.TestCase):
    def setUp(self):
        self.tree = Tree({A: ["s", "t"], B: ["u"]}, {A: F, B: F})
        self.book = some_book()

    def let(self, paper, node=A, upto=None):
        return shows_right(self.book, self.tree, node, paper, upto=upto)

    def told(self, node=A, upto=None):
        paper = right_paper(self.book, self.tree, node, upto=upto)
        self.assertIs(self.let(paper, node, upto), True)
        return paper

    def test_the_paper_of_the_right_name(self):
        self.assertEqual(self.told(), ("right", (4, 1), [
            ((1, 1), "elsewhere", "u"), ((2, 1), "struck", (8, 3)), ((3, 1), "taken", (2, 1)),
            ((5, 1), "struck", (9, 4)), ((6, 1), "elsewhere", "u")]))

    def test_the_paper_of_none(self):
        self.assertEqual(self.told(B), ("none", [
            ((1, 1), "elsewhere", "s"), ((2, 1), "elsewhere", "t"), ((3, 1), "elsewhere", "s"), ((4, 1), "elsewhere", "s"),
            ((5, 1), "elsewhere", "s"), ((6, 1), "elsewhere", "s"), ((7, 1), "elsewhere", "s")]))
        self.assertEqual(self.told(F), ("none", []))
        self.assertEqual(self.told(A, (0, 0)), ("none", []))

    def test_uptos(self):
        self.assertEqual(self.told(A, (2, 1)), ("right", (2, 1), [((1, 1), "elsewhere", "u")]))
        self.assertEqual(self.told(A, (8, 2)), ("right", (2, 1), [((1, 1), "elsewhere", "u")]))
        self.assertEqual(self.told(A, (8, 3))[:2], ("right", (4, 1)))

    def rows(self, *changed):
        """The told rows, some of them changed."""
        rows = {row[0]: row for row in self.told()[2]}
        rows.update({row[0]: row for row in changed})
        return ("right", (4, 1), [rows[name] for name in sorted(rows)])

    def test_any_reason_that_is_so_is_let_by(self):
        for row in [((1, 1), "elsewhere", "v"), ((1, 1), "struck", (8, 1)), ((1, 1), "struck", (8, 2)),
                    ((3, 1), "taken", (2, 1)), ((3, 1), "barred", (2, 1)), ((3, 1), "gives way", (9, 1))]:
            self.assertIs(self.let(self.rows(row)), True)
            self.assertIs(self.let(("right", (4, 1), tuple(self.rows(row)[2]))), True)

    def test_reasons_that_are_not_so(self):
        for row in [((1, 1), "elsewhere", "s"), ((1, 1), "elsewhere", "z"), ((1, 1), "elsewhere", None),
                    ((1, 1), "struck", (8, 3)), ((1, 1), "struck", (1, 1)), ((1, 1), "taken", (2, 1)),
                    ((1, 1), "barred", (2, 1)), ((1, 1), "gives way", (9, 1)), ((1, 1), "younger", (4, 1)),
                    ((2, 1), "taken", (1, 1)), ((2, 1), "barred", (1, 1)), ((2, 1), "taken", (3, 1)),
                    ((3, 1), "taken", (1, 1)), ((3, 1), "barred", (1, 1)), ((3, 1), "gives way", (9, 2)),
                    ((3, 1), "gives way", (4, 1)), ((3, 1), "struck", (8, 3)), ((3, 1), "elsewhere", "s"),
                    ((5, 1), "gives way", (9, 3)), ((5, 1), "elsewhere", "s"), ((6, 1), "elsewhere", "s"),
                    ((3, 1), "Taken", (2, 1)), ((3, 1), "taken"), ((3, 1), "taken", (2, 1), None), ((3, 1), b"taken", (2, 1)),
                    ((3, 1), "taken", [2, 1]), ((3, 1), "taken", (2, True)), ((3, 1), "taken", (2.0, 1))]:
            with self.subTest(row=row):
                self.assertIs(self.let(self.rows(row)), False)

    def test_of_one_set_ahead_the_first_four_alone(self):
        # (6, 1) gives way to a fit one, and so it may be told of it where it is elder, but not where it is set ahead.
        self.book.ahead((10, 1), (7, 1), (6, 1))
        self.assertIs(self.let(self.rows(((6, 1), "gives way", (10, 1)))), False)
        self.assertEqual(self.told()[1], (4, 1))
        self.book.ahead((10, 2), (3, 1), (4, 1))
        self.assertIs(self.let(self.rows(((3, 1), "taken", (2, 1)))), True)
        self.book.drop((9, 1))
        self.book.ahead((9, 1), (7, 1), (3, 1))
        self.assertIs(self.let(self.rows(((3, 1), "gives way", (9, 1)))), False)
        self.assertIs(self.let(self.rows(((3, 1), "taken", (2, 1)))), True)
        self.book.drop((10, 2))
        self.assertIs(self.let(self.rows(((3, 1), "gives way", (9, 1)))), True)

    def test_of_none_the_first_four_alone(self):
        book = names(("x one", "s"), ("x two", "t"))
        book.ahead((5, 1), (2, 1), (1, 1))
        paper = ("none", [((1, 1), "gives way", (5, 1)), ((2, 1), "younger", (2, 1))])
        self.assertIs(shows_right(book, self.tree, A, paper), False)
        book.strike((6, 1), (1, 1))
        self.assertEqual(right_paper(book, self.tree, A), ("right", (2, 1), [((1, 1), "struck", (6, 1))]))
        self.assertIs(shows_right(book, self.tree, A, ("right", (2, 1), [((1, 1), "gives way", (5, 1))])), True)

    def test_rows_out_twice_in_another_order_of_other_names(self):
        paper = self.told()
        rows = paper[2]
        for at in range(len(rows)):
            self.assertIs(self.let(("right", (4, 1), rows[:at] + rows[at + 1:])), False)
            self.assertIs(self.let(("right", (4, 1), rows[:at] + [rows[at]] + rows[at:])), False)
            self.assertIs(self.let(("right", (4, 1), rows[:at] + [list(rows[at])] + rows[at + 1:])), False)
            self.assertIs(self.let(("right", (4, 1), rows[:at] + [((9, 9),) + rows[at][1:]] + rows[at + 1:])), False)
        for one, two in itertools.combinations(range(len(rows)), 2):
            other = list(rows)
            other[one], other[two] = other[two], other[one]
            self.assertIs(self.let(("right", (4, 1), other)), False)
        more = sorted(rows + [((7, 1), "elsewhere", "u")])
        self.assertIs(self.let(("right", (4, 1), more)), False)
        self.assertIs(self.let(("right", (4, 1), sorted(rows + [((4, 1), "younger", (4, 1))]))), False)
        self.assertIs(self.let(("right", (4, 1), [])), False)

    def test_another_right_name_or_none(self):
        rows = self.told()[2]
        for name in [(1, 1), (2, 1), (3, 1), (5, 1), (6, 1), (7, 1), (9, 9), (9, 1), (8, 1), [4, 1], (4, True), (4.0, 1), None]:
            self.assertIs(self.let(("right", name, rows)), False)
        self.assertIs(self.let(("right", (7, 1), rows[:4] + [((6, 1), "elsewhere", "u")])), False)
        self.assertIs(self.let(("none", rows)), False)
        for last in [("younger", (4, 1)), ("elsewhere", "s"), ("gives way", (9, 2)), ("barred", (1, 1))]:
            every = sorted(rows + [((4, 1), *last), ((7, 1), "younger", (4, 1))])
            self.assertIs(self.let(("none", every)), False)
        self.assertIs(self.let(["right", (4, 1), rows]), False)
        self.assertIs(self.let(("right", (4, 1), rows, None)), False)
        self.assertIs(self.let(("right", (4, 1))), False)
        self.assertIs(self.let(("Right", (4, 1), rows)), False)
        self.assertIs(self.let(("right", (4, 1), {row[0]: row for row in rows})), False)

    def test_a_right_name_for_none(self):
        paper = self.told(B)
        self.assertIs(self.let(("right", (1, 1), []), B), False)
        self.assertIs(self.let(("right", (7, 1), paper[1][:-1]), B), False)
        self.assertIs(self.let(("none", tuple(paper[1])), B), True)
        self.assertIs(self.let(("none", paper[1][1:]), B), False)
        self.assertIs(self.let(("none", []), F), True)
        self.assertIs(self.let(("none", ()), F), True)
        self.assertIs(self.let(("none", None), F), False)
        self.assertIs(self.let(("none", {}), F), False)

    def test_of_anything(self):
        for node in (A, B):
            paper = self.told(node)
            for thing in strange():
                self.assertIs(self.let(thing, node), False)
                self.assertIs(self.let((*paper, thing), node), False)
                for at in range(len(paper)):
                    self.assertIs(self.let(paper[:at] + (thing,) + paper[at + 1:], node), False)
                for at, row in enumerate(paper[-1]):
                    for changed in [thing] + [row[:part] + (thing,) + row[part + 1:] for part in range(3)]:
                        rows = paper[-1][:at] + [changed] + paper[-1][at + 1:]
                        self.assertIs(self.let((*paper[:-1], rows), node), False)

    def test_no_node_is_refused_whatever_the_paper(self):
        for call, more in [(right_paper, ()), (shows_right, (("none", []),)), (shows_right, (None,))]:
            for node in [(0, "z"), H, (1, "a"), None, [0, "a"], (False, "a")]:
                self.assertIs(refusal(self, NoNode, call, self.book, self.tree, node, *more).node, node)

    def test_told_rows_may_be_changed(self):
        paper = self.told()
        paper[2].clear()
        self.assertEqual(len(self.told()[2]), 5)
        self.assertIs(type(paper), tuple)
        self.assertTrue(all(type(row) is tuple for row in self.told()[2]))

    def test_by_names(self):
        paper = right_paper(book=self.book, tree=self.tree, node=A, upto=None)
        self.assertIs(shows_right(book=self.book, tree=self.tree, node=A, paper=paper, upto=None), True)


def so(book, tree, node, name, reason, thing, upto):
    """Whether a reason is so by a thing, straight from the words of the document."""
    elder = [other for other in book.names(rank=node[0], upto=upto) if other < name and book.wholly(other, upto=upto) is None]
    if reason == "elsewhere":
        return thing in book.bearers(name, upto=upto) and thing not in tree.sheets(node)
    if reason == "struck":
        return any(record[:3] == ("strike", thing, name) for record in book.entries(upto=upto))
    if reason == "taken":
        return thing in elder and book.words(thing) == book.words(name)
    if reason == "barred":
        family = tree.above(node, 1)
        return (node[0] == 0 and family is not None and thing in elder and book.words(thing)[1] == book.words(name)[1]
                and set(book.bearers(thing, upto=upto)) <= set(tree.sheets(family)))
    ahead = [row for row in book.aheads(upto=upto) if row[0] == thing and row[2] == name]
    return bool(ahead) and slow_fit(book, tree, node, ahead[0][1], upto)


FOUR = ["elsewhere", "struck", "taken", "barred"]


def slow_look(book, tree, node, paper, upto):
    """The look at a paper of the right form, straight from the words of the document."""
    there = book.names(rank=node[0], upto=upto)
    best = paper[1] if paper[0] == "right" else None
    setters = [one for _, one, other in book.aheads(upto=upto) if other == best]
    asked = there if best is None else [name for name in there if name < best or name in setters]
    if best is not None and (best not in there or not slow_fit(book, tree, node, best, upto)):
        return False
    if [row[0] for row in paper[-1]] != asked:
        return False
    for name, reason, thing in paper[-1]:
        let = FOUR if best is None or name in setters else FOUR + ["gives way"]
        if reason not in let or not so(book, tree, node, name, reason, thing, upto):
            return False
    return True


class AgainstTheSlowWay(unittest.TestCase):
    def test_told_papers_are_true_and_let_by(self):
        chance = random.Random(20)
        for _ in range(200):
            book, tree = book_of(some_records(chance)), some_tree(chance)
            for upto in [None, (2, 4)]:
                for node in tree.nodes():
                    paper = right_paper(book, tree, node, upto=upto)
                    self.assertIs(shows_right(book, tree, node, paper, upto=upto), True)
                    self.assertTrue(slow_look(book, tree, node, paper, upto))
                    best = right(book, tree, node, upto=upto)
                    self.assertEqual(paper[:-1], ("none",) if best is None else ("right", best))
                    for name, reason, thing in paper[-1]:
                        self.assertEqual(why_not(book, tree, node, name, upto=upto), (reason, thing))

    def test_changed_papers_are_let_by_just_where_they_are_such(self):
        chance = random.Random(21)
        seen = {}
        for _ in range(200):
            book, tree = book_of(some_records(chance)), some_tree(chance)
            things = list("stuv") + [record[1] for record in book.entries()]
            for node in tree.nodes():
                paper = right_paper(book, tree, node)
                for _ in range(12):
                    changed = self.changed(chance, paper, things, book.names(rank=node[0]))
                    look = shows_right(book, tree, node, changed)
                    self.assertIs(look, slow_look(book, tree, node, changed, None))
                    if look:
                        # Whoever wrote it: what is let by tells the right name.
                        best = right(book, tree, node)
                        self.assertEqual(changed[:-1], ("none",) if best is None else ("right", best))
                    seen[(look, changed != paper)] = True
        self.assertIn((True, True), seen)
        self.assertIn((False, True), seen)

    def changed(self, chance, paper, things, every):
        rows = list(paper[-1])
        sort = chance.choice(["reason", "reason", "reason", "out", "twice", "order", "best", "none"])
        at = chance.randrange(len(rows)) if rows else 0
        if sort == "reason" and rows:
            rows[at] = (rows[at][0], chance.choice(FOUR + ["gives way", "younger"]), chance.choice(things))
        if sort == "out" and rows:
            del rows[at]
        if sort == "twice" and rows:
            rows.insert(at, rows[at])
        if sort == "order":
            chance.shuffle(rows)
        if sort == "best" and every:
            return ("right", chance.choice(every), rows)
        if sort == "none":
            return ("none", rows)
        return (*paper[:-1], rows)

    def test_every_row_that_could_be_written(self):
        tree = Tree({A: ["s", "t"], B: ["u"]}, {A: F, B: F})
        book = some_book()
        paper = right_paper(book, tree, A)
        things = list("stuvz") + [record[1] for record in book.entries()] + [(9, 9), None]
        for at, row in enumerate(paper[2]):
            for reason, thing in itertools.product(FOUR + ["gives way", "younger", ""], things):
                rows = list(paper[2])
                rows[at] = (row[0], reason, thing)
                look = shows_right(book, tree, A, ("right", (4, 1), rows))
                self.assertIs(look, slow_look(book, tree, A, ("right", (4, 1), rows), None))


if __name__ == "__main__":
    unittest.main()
