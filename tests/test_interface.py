import inspect
import unittest

from homerounds import (
    cores, doings, homes, house, levels, lively, looker, machines, mirrors, oneround, orders, returns, rows,
)

INTERFACE = (
    (machines, "is_machine", ["thing"]),
    (machines, "is_word", ["machine", "thing"]),
    (machines, "state_turned", ["machine", "state", "word"]),
    (machines, "state_behind", ["machine", "state", "word"]),
    (rows, "is_row", ["machine", "thing"]),
    (rows, "row_turned", ["machine", "row", "word"]),
    (rows, "row_behind", ["machine", "row", "word"]),
    (rows, "row_back", ["machine", "row"]),
    (rows, "plain", ["machine", "row"]),
    (doings, "is_doing", ["thing"]),
    (doings, "idle", ["letters"]),
    (doings, "doing_of", ["machine", "row"]),
    (doings, "does", ["doing", "word"]),
    (doings, "behind", ["doing", "word"]),
    (doings, "joined", ["one", "other"]),
    (doings, "back", ["doing"]),
    (doings, "times", ["doing", "number"]),
    (doings, "first_unlike", ["one", "other"]),
    (levels, "all_words", ["letters", "length"]),
    (levels, "rounds", ["doing", "length"]),
    (levels, "flocks", ["machine", "length"]),
    (levels, "way", ["machine", "one", "other"]),
    (returns, "round_of", ["doing", "letter"]),
    (returns, "return_at", ["doing", "letter"]),
    (returns, "return_behind", ["doing", "word"]),
    (returns, "returns", ["doing"]),
    (orders, "order", ["doing"]),
    (homes, "home", ["doing", "word"]),
    (homes, "homes", ["doing", "word"]),
    (homes, "endless", ["doing", "lead", "ring"]),
    (homes, "homes_of", ["doing", "length"]),
    (mirrors, "tree", ["doing", "length"]),
    (mirrors, "mirrored", ["one", "other"]),
    (mirrors, "mirror", ["one", "other", "word"]),
    (lively, "lively", ["doing", "length"]),
    (lively, "kind", ["doing"]),
    (oneround, "odd", ["doing", "length"]),
    (oneround, "one_round", ["doing"]),
    (cores, "core", ["machine"]),
    (cores, "depth", ["machine", "row"]),
    (looker, "look", ["paper"]),
)

METHODS = (
    (mirrors, "Walk", "__init__", ["one", "other"]),
    (mirrors, "Walk", "feed", ["letter"]),
    (mirrors, "Walk", "take_back", ["many"]),
    (mirrors, "Walk", "fork", []),
    (mirrors, "Walk", "word", []),
    (mirrors, "Walk", "image", []),
    (mirrors, "Walk", "home", []),
    (house, "House", "__init__", ["machine"]),
    (house, "House", "put", ["name", "row"]),
    (house, "House", "join", ["name", "one", "other"]),
    (house, "House", "turn_back", ["name", "one"]),
    (house, "House", "take_out", ["name"]),
    (house, "House", "exchange", ["state", "one", "other"]),
    (house, "House", "lead", ["state", "letter", "next_state"]),
    (house, "House", "back", ["number"]),
    (house, "House", "mark", []),
    (house, "House", "machine", []),
    (house, "House", "names", []),
    (house, "House", "marks", []),
    (house, "House", "row", ["name"]),
    (house, "House", "doing", ["name"]),
    (house, "House", "order", ["name"]),
    (house, "House", "home", ["name", "word"]),
    (house, "House", "unlike", ["one", "other"]),
    (house, "House", "mirrored", ["one", "other"]),
    (house, "House", "kind", ["name"]),
)


class InterfaceTest(unittest.TestCase):
    def test_each_function_stands_in_its_file(self):
        for module, name, parameters in INTERFACE:
            with self.subTest(name=name):
                function = getattr(module, name)
                self.assertEqual(function.__module__, module.__name__)
                self.assertEqual(list(inspect.signature(function).parameters), parameters)

    def test_each_method_stands_in_its_class(self):
        for module, name, method, parameters in METHODS:
            with self.subTest(name=name, method=method):
                kind = getattr(module, name)
                self.assertEqual(kind.__module__, module.__name__)
                self.assertIn(method, vars(kind))
                self.assertEqual(list(inspect.signature(vars(kind)[method]).parameters)[1:], parameters)


if __name__ == "__main__":
    unittest.main()
