import unittest

from kindnames.words import is_moment, is_node, is_pair, is_word
from things import strange

BIG = 10 ** 12


class Forms(unittest.TestCase):
    def all_are(self, look, truth, things):
        for thing in things:
            with self.subTest(thing=repr(thing)):
                self.assertIs(look(thing), truth)

    def test_words(self):
        self.all_are(is_word, True, ["a", "z", "aster", "abcdefghijkl", "mnopqrstuvwx", "yz"])
        self.all_are(is_word, False, [
            "", "abcdefghijklm", "A", "aB", "a b", "a ", " a", "a\n", "\na", "a1", "1", "a-b", "a_b", "a.b", "~", "`",
            "{", "@", "\u00e4", "\u0430", "\u00aa", "\u1d43", b"a", ["a"], ("a",), {"a": 1}, None, 1, True])

    def test_moments(self):
        self.all_are(is_moment, True, [(0, 1), (1, 1), (BIG, 1), (0, BIG), (BIG, BIG)])
        self.all_are(is_moment, False, [
            (0, 0), (-1, 1), (0, -1), (BIG + 1, 1), (0, BIG + 1), (BIG + 1, BIG + 1), (BIG + 2, 1), (0, BIG + 2),
            (True, 1), (False, 1), (0, True), (0.0, 1), (0, 1.0), ("0", "1"), [0, 1], (0,), (1,), (), (0, 1, 1),
            (None, 1), (0, None), None, 1, "01", {0: 1}, {(0, 1): 1}, ((0, 1),)])

    def test_pairs(self):
        self.all_are(is_pair, True, [
            (0, 0), (0, 1), (1, 0), (BIG, BIG), (BIG + 1, 0), (0, BIG + 1), (BIG + 1, BIG + 1)])
        self.all_are(is_pair, False, [
            (-1, 0), (0, -1), (BIG + 2, 0), (0, BIG + 2), (True, 0), (0, False), (0.0, 0), [0, 0], (0,), (), (0, 0, 0),
            None, 0, "00", {0: 0}, ("0", "0"), (None, None)])

    def test_nodes(self):
        self.all_are(is_node, True, [(0, "a"), (1, "abcdefghijkl"), (2, "b"), (3, "c"), (4, "d"), (5, "z")])
        self.all_are(is_node, False, [
            (6, "a"), (-1, "a"), (BIG, "a"), (0, ""), (0, "abcdefghijklm"), (0, "A"), (True, "a"), (False, "a"),
            (0.0, "a"), ("0", "a"), [0, "a"], (0,), ("a",), (), (0, "a", "a"), ("a", 0), (0, 1), (0, None), None, "a",
            {0: "a"}, {"rank": 0}])

    def test_of_anything_the_answer_is_a_truth(self):
        for look in (is_word, is_moment, is_pair, is_node):
            for thing in strange():
                with self.subTest(look=look.__name__):
                    self.assertIn(look(thing), (True, False))
                    self.assertIs(type(look(thing)), bool)

    def test_by_names(self):
        self.assertIs(is_word(thing="a"), True)
        self.assertIs(is_moment(thing=(0, 1)), True)
        self.assertIs(is_pair(thing=(0, 0)), True)
        self.assertIs(is_node(thing=(0, "a")), True)


if __name__ == "__main__":
    unittest.main()
