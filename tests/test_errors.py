import unittest

from kindnames import errors

CLASSES = {
    "BadMoment": (ValueError, ["moment"]), "BadName": (ValueError, ["part"]), "BadTree": (ValueError, ["part"]),
    "BadPage": (ValueError, ["place"]), "BadFrame": (ValueError, ["part"]), "BadSaying": (ValueError, ["part"]),
    "Unread": (ValueError, ["row"]),
    "NoName": (KeyError, ["moment"]), "NoEntry": (KeyError, ["moment"]), "NoNode": (KeyError, ["node"]),
    "NoSheet": (KeyError, ["sheet"]), "BadSide": (KeyError, ["side"]),
    "SameMoment": (LookupError, ["moment"]), "Later": (LookupError, ["moment"]),
    "Unfit": (RuntimeError, ["moment"]), "Needed": (RuntimeError, ["moment", "by"]),
    "TooMany": (ArithmeticError, ["many"]),
}


class Errors(unittest.TestCase):
    def test_each_stands_straight_under_its_python_class(self):
        for name, (above, _) in CLASSES.items():
            with self.subTest(name):
                self.assertEqual(getattr(errors, name).__bases__, (above,))

    def test_each_has_its_fields_by_place(self):
        for name, (_, fields) in CLASSES.items():
            with self.subTest(name):
                told = getattr(errors, name)(*[f"{field} told" for field in fields])
                self.assertEqual(vars(told), {field: f"{field} told" for field in fields})

    def test_there_are_just_these_seventeen(self):
        there = [name for name, thing in vars(errors).items() if isinstance(thing, type)]
        self.assertEqual(sorted(there), sorted(CLASSES))
        self.assertEqual(len(there), 17)


if __name__ == "__main__":
    unittest.main()
