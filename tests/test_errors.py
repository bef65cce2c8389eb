import unittest

from homerounds import errors
from tests.samples import HUGE, ODD_THINGS

OF_A_TEXT = (
    errors.NoMachine, errors.NoState, errors.NoWord, errors.NoLetter, errors.NoRow, errors.NoDoing,
    errors.NoNumber, errors.NoFit, errors.NoMirror, errors.NoPaper, errors.TooMany, errors.TooLong,
)
WITH_A_FIELD = (
    (errors.NoName, "name"), (errors.Standing, "name"), (errors.Full, "most"), (errors.NoMark, "number"),
)


class ErrorsTest(unittest.TestCase):
    def test_turn_error_is_right_under_value_error(self):
        self.assertEqual(errors.TurnError.__bases__, (ValueError,))
        self.assertEqual(str(errors.TurnError("why")), "why")

    def test_each_other_one_is_right_under_turn_error(self):
        for kind in OF_A_TEXT + tuple([kind for kind, _ in WITH_A_FIELD]):
            with self.subTest(kind=kind):
                self.assertEqual(kind.__bases__, (errors.TurnError,))

    def test_all_are_defined_in_errors(self):
        defined = sorted([
            name for name, thing in vars(errors).items()
            if isinstance(thing, type) and thing.__module__ == "homerounds.errors"
        ])
        named = [kind.__name__ for kind in OF_A_TEXT] + [kind.__name__ for kind, _ in WITH_A_FIELD]
        self.assertEqual(defined, sorted(named + ["TurnError"]))

    def test_text(self):
        for kind in OF_A_TEXT:
            with self.subTest(kind=kind):
                self.assertEqual(str(kind("why it is so")), "why it is so")
                with self.assertRaises(errors.TurnError):
                    raise kind("why")

    def test_fields(self):
        for kind, field in WITH_A_FIELD:
            for worth in ODD_THINGS + ("abc", 12, 6):
                with self.subTest(kind=kind):
                    error = kind(worth)
                    self.assertIs(getattr(error, field), worth)
                    self.assertEqual(vars(error), {field: worth})

    def test_text_of_those_with_a_field(self):
        for kind, _ in WITH_A_FIELD:
            for worth in ("abc", HUGE, ((HUGE,),)):
                with self.subTest(kind=kind):
                    self.assertNotEqual(str(kind(worth)), "")


if __name__ == "__main__":
    unittest.main()
