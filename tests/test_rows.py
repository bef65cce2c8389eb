import unittest
from copy import deepcopy

from homerounds.errors import NoMachine, NoRow, NoWord
from homerounds.machines import state_behind, state_turned
from homerounds.rows import is_row, plain, row_back, row_behind, row_turned
from tests.samples import (
    ADDING, FOUR, NO_MACHINES, NO_ROWS, NO_WORDS, ODD_THINGS, ONE_STATE, THREE, rows_to, small_machines, told_by,
    words_to,
)


class IsRowTest(unittest.TestCase):
    def test_lengths(self):
        for length in range(20):
            self.assertIs(is_row(ADDING, (1,) * length), length <= 16)
            self.assertIs(is_row(ADDING, (-2,) * length), length <= 16)

    def test_signs(self):
        for machine in (ONE_STATE, ADDING, THREE, FOUR):
            many = len(machine[1])
            for sign in range(-12, 12):
                for row in ((sign,), (0, sign), (sign, -1), (0,) * 15 + (sign,)):
                    self.assertIs(is_row(machine, row), -many <= sign < many)

    def test_of_anything(self):
        for thing in NO_ROWS:
            self.assertIs(is_row(ADDING, thing), False)
        for thing in ODD_THINGS:
            self.assertIs(is_row(ADDING, thing), False)

    def test_no_machine(self):
        for machine in NO_MACHINES:
            for thing in ((), (0,), None, []):
                self.assertIs(told_by(is_row, machine, thing), NoMachine)


class RowTurnedTest(unittest.TestCase):
    def test_by_hand(self):
        for row, word, turned, behind in (
            ((), (1, 0, 1), (1, 0, 1), ()),
            ((0,), (1, 0, 1), (0, 1, 1), (1,)),
            ((0, 0), (1, 0, 1), (1, 1, 1), (1, 1)),
            ((0, 0, 0), (1, 0, 1), (0, 0, 0), (1, 1, 0)),
            ((-1,), (1, 0, 1), (0, 0, 1), (-2,)),
            ((-1,), (0, 0, 1), (1, 1, 0), (-2,)),
            ((-1,), (0, 0, 0), (1, 1, 1), (-1,)),
            ((-1, -1), (1, 0, 0), (1, 1, 1), (-2, -1)),
            ((0, -1), (1, 1), (1, 1), (0, -1)),
            ((-1, 0), (0, 1), (0, 1), (-2, 1)),
            ((0, 1, -1, -2, 0), (1, 1, 0), (0, 0, 1), (1, 1, -2, -2, 1)),
            ((1, -2), (0, 1), (0, 1), (1, -2)),
        ):
            with self.subTest(row=row, word=word):
                self.assertEqual(row_turned(ADDING, row, word), turned)
                self.assertEqual(row_behind(ADDING, row, word), behind)

    def test_three_letters_by_hand(self):
        # 0 by state 0 into 1, behind it 0; 1 back by state 1 into 2, behind it state 0 back: the state behind 2.
        self.assertEqual(row_turned(THREE, (0, -2), (0,)), (2,))
        self.assertEqual(row_behind(THREE, (0, -2), (0,)), (0, -1))
        # Then 1 by state 0 into 2, behind it 1; 2 back by state 0 into 1, behind it state 1 back.
        self.assertEqual(row_turned(THREE, (0, -2), (0, 1)), (2, 1))
        self.assertEqual(row_behind(THREE, (0, -2), (0, 1)), (1, -2))

    def test_the_first_sign_turns_first(self):
        # State 0 after state 1 and state 1 after state 0 part at the first letter.
        self.assertEqual(row_turned(THREE, (0, 1), (0,)), (2,))
        self.assertEqual(row_turned(THREE, (1, 0), (0,)), (1,))

    def test_the_empty_row_and_the_empty_word(self):
        for machine in (ONE_STATE, ADDING, THREE, FOUR):
            for word in words_to(machine[0], 3):
                self.assertEqual(row_turned(machine, (), word), word)
                self.assertEqual(row_behind(machine, (), word), ())
            for row in rows_to(machine, 2):
                self.assertEqual(row_turned(machine, row, ()), ())
                self.assertEqual(row_behind(machine, row, ()), row)

    def test_one_sign_there_is_its_state(self):
        for machine in small_machines() + [THREE, FOUR]:
            for state in range(len(machine[1])):
                for word in words_to(machine[0], 3):
                    self.assertEqual(row_turned(machine, (state,), word), state_turned(machine, state, word))
                    self.assertEqual(row_behind(machine, (state,), word), (state_behind(machine, state, word),))

    def test_one_sign_back_undoes_its_state(self):
        for machine in small_machines() + [THREE, FOUR]:
            for state in range(len(machine[1])):
                for word in words_to(machine[0], 3):
                    turned = state_turned(machine, state, word)
                    behind = state_behind(machine, state, word)
                    self.assertEqual(row_turned(machine, (-1 - state,), turned), word)
                    self.assertEqual(row_behind(machine, (-1 - state,), turned), (-1 - behind,))

    def test_signs_one_after_the_other(self):
        for machine in (ADDING, THREE):
            for row in rows_to(machine, 3):
                for word in words_to(machine[0], 3):
                    turned, behind = word, ()
                    for sign in row:
                        behind += row_behind(machine, (sign,), turned)
                        turned = row_turned(machine, (sign,), turned)
                    self.assertEqual(row_turned(machine, row, word), turned)
                    self.assertEqual(row_behind(machine, row, word), behind)

    def test_the_row_behind_turns_the_rest(self):
        for row in ((0, -2, 2), (-3, 1, 0, 0), (2, -3, -1)):
            for word in words_to(3, 5):
                for at in range(len(word) + 1):
                    behind = row_behind(THREE, row, word[:at])
                    told = row_turned(THREE, row, word[:at]) + row_turned(THREE, behind, word[at:])
                    self.assertEqual(row_turned(THREE, row, word), told)

    def test_the_longest_row_and_word(self):
        # Sixteen is the fifth bit.
        self.assertEqual(row_turned(ADDING, (0,) * 16, (0,) * 200), (0,) * 4 + (1,) + (0,) * 195)
        self.assertEqual(row_turned(ADDING, (-1,) * 16, (0,) * 200), (0,) * 4 + (1,) * 196)
        self.assertEqual(row_behind(ADDING, (-1,) * 16, (0,) * 200), (-1,) + (-2,) * 15)
        mixed = (7, -8, 0, 3, -1, -5, 2, 2, -3, 6, -7, 1, 4, -2, 5, -6)
        word = (0, 1, 2, 3, 3, 2, 1, 0) * 25
        self.assertEqual(row_turned(FOUR, mixed[8:], row_turned(FOUR, mixed[:8], word)),
                         row_turned(FOUR, mixed, word))

    def test_kinds_of_what_is_told(self):
        self.assertIs(type(row_turned(FOUR, (1, -2), (0, 3))), tuple)
        for row in (row_behind(FOUR, (1, -2), (0, 3)), row_back(FOUR, (1, -2)), plain(FOUR, (1, -2, -2))):
            self.assertIs(type(row), tuple)


class RowBackTest(unittest.TestCase):
    def test_by_hand(self):
        for row, told in (
            ((), ()), ((0,), (-1,)), ((-1,), (0,)), ((0, 1), (-2, -1)), ((1, -1, 0), (-1, 0, -2)),
            ((0, -1), (0, -1)), ((0, 0, -2), (1, -1, -1)), ((0,) * 16, (-1,) * 16),
        ):
            self.assertEqual(row_back(ADDING, row), told)
        self.assertEqual(row_back(FOUR, (7, -8, 3)), (-4, 7, -8))

    def test_a_row_and_then_its_back_turn_nothing(self):
        for machine in (ADDING, THREE):
            for row in rows_to(machine, 3):
                for word in words_to(machine[0], 3):
                    turned = row_turned(machine, row, word)
                    self.assertEqual(row_turned(machine, row_back(machine, row), turned), word)
                    self.assertEqual(row_turned(machine, row + row_back(machine, row), word), word)

    def test_the_back_of_the_back(self):
        for row in rows_to(THREE, 4):
            self.assertEqual(row_back(THREE, row_back(THREE, row)), row)


def plain_by_leaving_out(row, from_the_end):
    """The document's words: neighbours left out one pair at a time."""
    while True:
        pairs = [at for at in range(len(row) - 1) if row[at] == -1 - row[at + 1]]
        if not pairs:
            return row
        at = pairs[-1 if from_the_end else 0]
        row = row[:at] + row[at + 2:]


class PlainTest(unittest.TestCase):
    def test_by_hand(self):
        for row, told in (
            ((), ()),
            ((0,), (0,)),
            ((-1,), (-1,)),
            ((0, -1), ()),
            ((-1, 0), ()),
            ((0, 0), (0, 0)),
            ((-1, -1), (-1, -1)),
            ((0, 1), (0, 1)),
            ((0, -2), (0, -2)),
            ((0, -1, 0), (0,)),
            ((-1, 0, -1), (-1,)),
            ((0, 1, -2, -1), ()),
            ((0, 1, -2, 0), (0, 0)),
            ((1, 0, -1, -1, 0, -2), ()),
            ((1, 0, 0, -1, -2, 1), (1, 0)),
            ((0, -1, 1, -2), ()),
            ((0, 1, -1, -2), (0, 1, -1, -2)),
        ):
            with self.subTest(row=row):
                self.assertEqual(plain(ADDING, row), told)

    def test_sixteen_signs(self):
        ahead = (0, 1, 2, 3, 4, 5, 6, 7)
        self.assertEqual(plain(FOUR, ahead + row_back(FOUR, ahead)), ())
        self.assertEqual(plain(FOUR, (0, -1) * 8), ())
        self.assertEqual(plain(FOUR, (0,) * 16), (0,) * 16)
        self.assertEqual(plain(FOUR, (3,) + (6, -7) * 7 + (2,)), (3, 2))

    def test_as_the_document_tells(self):
        for row in rows_to(ADDING, 6):
            self.assertEqual(plain(ADDING, row), plain_by_leaving_out(row, False))
            self.assertEqual(plain(ADDING, row), plain_by_leaving_out(row, True))

    def test_nothing_is_turned_otherwise(self):
        for row in rows_to(THREE, 3):
            for word in words_to(3, 3):
                self.assertEqual(row_turned(THREE, plain(THREE, row), word), row_turned(THREE, row, word))

    def test_only_signs_count(self):
        # State 1 turns nothing, and yet its sign alone undoes only its back.
        self.assertEqual(plain(ADDING, (1, 1)), (1, 1))
        self.assertEqual(row_behind(ADDING, (0, -1), (0,)), (1, -2))
        self.assertEqual(row_back(ADDING, (0, -1, 0)), (-1, 0, -1))


class RefusalTest(unittest.TestCase):
    def test_no_machine(self):
        for machine in NO_MACHINES:
            for deed in (row_turned, row_behind):
                self.assertIs(told_by(deed, machine, (0,), (0, 1)), NoMachine)
            for deed in (row_back, plain):
                self.assertIs(told_by(deed, machine, (0,)), NoMachine)

    def test_no_row(self):
        for row in NO_ROWS:
            for deed in (row_turned, row_behind):
                self.assertIs(told_by(deed, ADDING, row, (0, 1)), NoRow)
            for deed in (row_back, plain):
                self.assertIs(told_by(deed, ADDING, row), NoRow)
        self.assertIs(told_by(row_back, ADDING, (0,) * 16), None)
        self.assertIs(told_by(plain, ADDING, (0,) * 16), None)
        self.assertIs(told_by(plain, ADDING, (0, -1) * 9), NoRow)

    def test_no_word(self):
        for word in NO_WORDS:
            for deed in (row_turned, row_behind):
                self.assertIs(told_by(deed, ADDING, (0,), word), NoWord)
                self.assertIs(told_by(deed, ADDING, (), word), NoWord)

    def test_order(self):
        for machine in (ADDING, None, [], (2, ())):
            for row in ((0, -1), [0, -1], (2,), None):
                first = NoMachine if machine != ADDING else NoRow if row != (0, -1) else None
                for deed in (row_back, plain):
                    self.assertIs(told_by(deed, machine, row), first)
                for word in ((0, 1), [0, 1], (2,), None):
                    told = first or (NoWord if word != (0, 1) else None)
                    for deed in (row_turned, row_behind):
                        self.assertIs(told_by(deed, machine, row, word), told)

    def test_what_is_handed_in_stays_as_it_is(self):
        for thing in ODD_THINGS + NO_ROWS + NO_WORDS:
            before = deepcopy(thing)
            is_row(ADDING, thing)
            for deed in (row_turned, row_behind):
                told_by(deed, thing, thing, thing)
                told_by(deed, ADDING, thing, thing)
                told_by(deed, ADDING, (0,), thing)
            for deed in (row_back, plain):
                told_by(deed, thing, thing)
                told_by(deed, ADDING, thing)
            self.assertEqual(thing, before)
        machine, row, word = deepcopy(THREE), (0, -1, -3, 2, 1), (0, 1, 2)
        for deed in (row_turned, row_behind):
            deed(machine, row, word)
        for deed in (row_back, plain):
            deed(machine, row)
        self.assertEqual((machine, row, word), (THREE, (0, -1, -3, 2, 1), (0, 1, 2)))


if __name__ == "__main__":
    unittest.main()
