import inspect
import unittest

from homerounds import machines, rows

INTERFACE = (
    (machines, "is_machine", ["thing"]),
    (machines, "is_word", ["machine", "thing"]),
    (machines, "state_turned", ["machine", "state", "word"]),
    (machines, "state_behind", ["machine", "state", "word"]),
    (rows, "is_row", ["machine", "thing"]),
    (rows, "row_turned", ["machine", "row", "word"]),
    (rows, "row_behind", ["machine", "row", "word"]),
    (rows, "row_back", ["machine", "row"]),
    (rows, "plain", ["machine", "row"]),
)


class InterfaceTest(unittest.TestCase):
    def test_each_function_stands_in_its_file(self):
        for module, name, parameters in INTERFACE:
            with self.subTest(name=name):
                function = getattr(module, name)
                self.assertEqual(function.__module__, module.__name__)
                self.assertEqual(list(inspect.signature(function).parameters), parameters)


if __name__ == "__main__":
    unittest.main()
