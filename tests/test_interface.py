"""The names, arguments and files of the interface, as far as they have landed."""

import ast
import inspect
import importlib
import pathlib
import unittest

PACKAGE = pathlib.Path(__file__).resolve().parent.parent / "kindnames"

FUNCTIONS = {
    "words": ["is_word(thing)", "is_moment(thing)", "is_pair(thing)", "is_node(thing)"],
    "lies": ["why_lies(minds, mind, sheet, *, upto=None)", "why_one(minds, mind, node, other, *, upto=None)",
             "shows_lies(minds, mind, sheet, paper, *, upto=None)",
             "shows_one(minds, mind, node, other, paper, *, upto=None)"],
    "right": ["why_not(book, tree, node, name, *, upto=None)", "right(book, tree, node, *, upto=None)"],
    "rightpapers": ["right_paper(book, tree, node, *, upto=None)", "shows_right(book, tree, node, paper, *, upto=None)"],
    "called": ["called(book, tree, node, *, upto=None)", "kind_called(book, tree, words, *, upto=None)"],
    "wanted": ["wanted(book, tree, node, name, *, upto=None)"],
    "choices": ["right_by(book, tree, node, choice, *, upto=None)", "may_be_right(book, tree, node, name, *, upto=None)",
                "must_be_right(book, tree, node, name, *, upto=None)",
                "shows_may(book, tree, node, name, paper, *, upto=None)",
                "shows_must(book, tree, node, name, paper, *, upto=None)"],
    "uses": ["meant(book, minds, words, mind, *, upto=None)", "led(sheets, tree)",
             "leads(book, minds, words, mind, tree, *, upto=None)", "senses(book, one, two, *, upto=None)"],
    "sides": ["lie(one, node, two, other)"],
    "ways": ["least_way(one, two)", "shows_way(one, two, steps)", "way_pages(one, steps, *, but=())"],
    "puts": ["fewest_puts(one, two)", "shows_puts(one, two, paper)", "puts_page(one, two, *, but=())"],
    "frames": ["said(one, other, word)"],
    "worlds": ["world(frame, sayings)", "shows_world(frame, sayings, places)", "shows_clash(frame, sayings, need, rows)"],
    "mays": ["may_lie(frame, sayings, one, other)", "follows(frame, sayings, saying)", "through(word, other)",
             "blame(frame, sayings)"],
    "shared": ["common(trees)", "groups(tree, sheets)", "shared_groups(trees)", "distance(one, two)"],
    "turns": ["turns(house, mind, kind, *, since, upto=None)"],
    "saidof": ["house_may_lie(house, one, other, *, third=None, upto=None)",
               "use_may(house, words, mind, other, *, upto, on, told=None)"],
    "texts": ["show_record(record)", "read_record(row)", "show_house(house)", "read_house(text)"],
    "printed": ["printed(house, mind, node, *, upto)", "read_printed(text)", "shows_printed(house, text)"],
    "onetree": ["one_tree(trees)", "keeps_all(trees, groups)", "shows_no_tree(trees, sheets, rows)"],
}

CLASSES = {
    "book": {"Book()": [
        "publish(moment, words, *, rank=0, sheets=(), like=None)", "choose(moment, name, sheet)",
        "strike(moment, name, *, whole=False)", "ahead(moment, name, other)", "drop(moment)", "entries(*, upto=None)",
        "names(*, rank=None, upto=None)", "words(name)", "rank(name)", "base(name)", "chosen(name, *, upto=None)",
        "bearers(name, *, upto=None)", "struck(name, *, upto=None)", "wholly(name, *, upto=None)",
        "taker(name, *, upto=None)", "aheads(*, upto=None)", "__len__()"]},
    "trees": {"Tree(kinds=None, parents=None)": [
        "nodes(*, rank=None)", "sheets(node=None)", "kind_of(sheet)", "parent(node)", "above(node, rank)",
        "inner(node)", "__eq__(other)", "__len__()"]},
    "minds": {"Minds()": [
        "tell(moment, mind, deeds)", "drop(moment)", "pages(*, mind=None, upto=None)", "line(mind, *, upto=None)",
        "tree(mind, *, upto=None)", "keeper(mind, node, *, upto=None)", "born(mind, node, *, upto=None)", "__len__()"]},
    "house": {"House()": [
        "publish(moment, words, *, rank=0, sheets=(), like=None)", "choose(moment, name, sheet)",
        "strike(moment, name, *, whole=False)", "ahead(moment, name, other)", "page(moment, mind, deeds)",
        "say(moment, mind, one, other, *, both=None, first=None, second=None)", "tell(record)", "drop(moment)",
        "records(*, upto=None)", "book()", "minds()", "tree(mind, *, upto=None)", "__len__()"]},
    "frames": {"Frame(trees, *, open_nodes=(), closed=())": ["places()"],
               "Saying(one, other, *, both=None, first=None, second=None)": ["__eq__(other)"]},
}


def defined(module):
    """The functions and classes that a file of the package defines itself."""
    rows = ast.parse((PACKAGE / f"{module}.py").read_text()).body
    return {row.name: row for row in rows if isinstance(row, (ast.FunctionDef, ast.ClassDef))}


def shown(name, function):
    told = [each for each in inspect.signature(function).parameters.values() if each.name != "self"]
    return name + str(inspect.Signature(told))


class Interface(unittest.TestCase):
    def test_functions_stand_in_their_files(self):
        for module, rows in FUNCTIONS.items():
            told = importlib.import_module(f"kindnames.{module}")
            for row in rows:
                name = row.partition("(")[0]
                with self.subTest(row):
                    self.assertIsInstance(defined(module)[name], ast.FunctionDef)
                    self.assertEqual(shown(name, getattr(told, name)), row)

    def test_classes_stand_in_their_files_with_each_method(self):
        for module, classes in CLASSES.items():
            told = importlib.import_module(f"kindnames.{module}")
            for head, methods in classes.items():
                name = head.partition("(")[0]
                made = getattr(told, name)
                own = [row.name for row in defined(module)[name].body if isinstance(row, ast.FunctionDef)]
                self.assertEqual(shown(name, made.__init__), head)
                for row in methods:
                    with self.subTest(row):
                        self.assertIn(row.partition("(")[0], own)
                        self.assertEqual(shown(row.partition("(")[0], vars(made)[row.partition("(")[0]]), row)


if __name__ == "__main__":
    unittest.main()
