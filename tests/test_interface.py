import inspect
import unittest

from homerounds import doings, homes, levels, lively, machines, mirrors, orders, returns, rows

INTERFACE = (
    (machines, "is_machine", ["thing"]),
    (machines, "is_word", ["machine", "thing"]),
    (machines, "state_turned", ["machine", "state", "word"]),
    (machines, "state_behind", ["machine", "state", "word"]),
    (rows, "is_row", ["machine", "thing"]),
    (rows, "row_turned", ["machine", "row", "word"]),
    (rows, "row_behind", ["machine", "row", "word"]),
    (rows, "row_back", ["machine", "row"]),
    (rows, "plain", ["machine", "row"]),
    (doings, "is_doing", ["thing"]),
    (doings, "idle", ["letters"]),
    (doings, "doing_of", ["machine", "row"]),
    (doings, "does", ["doing", "word"]),
    (doings, "behind", ["doing", "word"]),
    (doings, "joined", ["one", "other"]),
    (doings, "back", ["doing"]),
    (doings, "times", ["doing", "number"]),
    (doings, "first_unlike", ["one", "other"]),
    (levels, "all_words", ["letters", "length"]),
    (levels, "rounds", ["doing", "length"]),
    (levels, "flocks", ["machine", "length"]),
    (levels, "way", ["machine", "one", "other"]),
    (returns, "round_of", ["doing", "letter"]),
    (returns, "return_at", ["doing", "letter"]),
    (returns, "return_behind", ["doing", "word"]),
    (returns, "returns", ["doing"]),
    (orders, "order", ["doing"]),
    (homes, "home", ["doing", "word"]),
    (homes, "homes", ["doing", "word"]),
    (homes, "endless", ["doing", "lead", "ring"]),
    (homes, "homes_of", ["doing", "length"]),
    (mirrors, "tree", ["doing", "length"]),
    (mirrors, "mirrored", ["one", "other"]),
    (mirrors, "mirror", ["one", "other", "word"]),
    (lively, "lively", ["doing", "length"]),
    (lively, "kind", ["doing"]),
)

METHODS = (
    (mirrors, "Walk", "__init__", ["one", "other"]),
    (mirrors, "Walk", "feed", ["letter"]),
    (mirrors, "Walk", "take_back", ["many"]),
    (mirrors, "Walk", "fork", []),
    (mirrors, "Walk", "word", []),
    (mirrors, "Walk", "image", []),
    (mirrors, "Walk", "home", []),
)


class InterfaceTest(unittest.TestCase):
    def test_each_function_stands_in_its_file(self):
        for module, name, parameters in INTERFACE:
            with self.subTest(name=name):
                function = getattr(module, name)
                self.assertEqual(function.__module__, module.__name__)
                self.assertEqual(list(inspect.signature(function).parameters), parameters)

    def test_each_method_stands_in_its_class(self):
        for module, name, method, parameters in METHODS:
            with self.subTest(name=name, method=method):
                kind = getattr(module, name)
                self.assertEqual(kind.__module__, module.__name__)
                self.assertIn(method, vars(kind))
                self.assertEqual(list(inspect.signature(vars(kind)[method]).parameters)[1:], parameters)


if __name__ == "__main__":
    unittest.main()
