import unittest
from copy import deepcopy

from homerounds.errors import NoMachine, NoState, NoWord
from homerounds.machines import is_machine, is_word, state_behind, state_turned
from tests.samples import (
    ADDING, FOUR, HUGE, NO_MACHINES, NO_WORDS, ODD_THINGS, ONE_STATE, THREE, nested, small_machines, told_by, words_to,
)

NO_STATES = (None, True, False, "0", "", (), (0,), [0], -1, 2, HUGE, -HUGE, nested(8))


def idle_states(letters, many):
    return tuple([(tuple(range(letters)), (many - 1,) * letters) for _ in range(many)])


def with_turns(turns):
    return (2, (ADDING[1][0], (turns, (0, 1))))


def with_nexts(nexts):
    return (2, (ADDING[1][0], ((0, 1), nexts)))


class IsMachineTest(unittest.TestCase):
    def test_samples(self):
        for machine in (ADDING, THREE, FOUR, ONE_STATE):
            self.assertIs(is_machine(machine), True)

    def test_every_small_one(self):
        machines = small_machines()
        self.assertEqual(len(machines), 66)
        for machine in machines:
            self.assertIs(is_machine(machine), True)

    def test_numbers_of_letters(self):
        told = [is_machine((letters, idle_states(letters, 2))) for letters in range(7)]
        self.assertEqual(told, [False, False, True, True, True, False, False])
        for letters in (-1, -2, True, False, None, "2", (2,), HUGE):
            self.assertIs(is_machine((letters, idle_states(2, 2))), False)

    def test_letters_are_as_many_as_told(self):
        for letters in (2, 3, 4):
            for others in (2, 3, 4):
                self.assertIs(is_machine((letters, idle_states(others, 2))), letters == others)

    def test_numbers_of_states(self):
        told = [is_machine((2, idle_states(2, many))) for many in range(11)]
        self.assertEqual(told, [False] + [True] * 8 + [False] * 2)

    def test_turns(self):
        for turns in ((0, 1), (1, 0)):
            self.assertIs(is_machine(with_turns(turns)), True)
        for at, turns in enumerate((
            (0, 0), (1, 1), (0, 2), (2, 1), (1, -1), (-1, 0), (0,), (), (0, 1, 2), (1, 0, 0), (0, 1, 1),
            (False, True), (0, True), (True, 0), (1, False), [0, 1], [1, 0], ["0", "1"], "01", "10", None, 0,
            True, (None, 1), (0, None), ("0", "1"), (0, "1"), ((0,), (1,)), (0, [1]), (0, HUGE), nested(5),
        )):
            with self.subTest(at=at):
                self.assertIs(is_machine(with_turns(turns)), False)

    def test_turns_of_more_letters(self):
        for turns in ((0, 1, 1), (0, 0, 2), (1, 2, 3), (0, 2, 2), (1, 1, 1), (0, True, 2)):
            self.assertIs(is_machine((3, ((turns, (0, 0, 0)),))), False)
        self.assertIs(is_machine((3, (((2, 0, 1), (0, 0, 0)),))), True)
        self.assertIs(is_machine((4, (((3, 0, 2, 1), (0, 0, 0, 0)),))), True)

    def test_nexts(self):
        for nexts in ((0, 0), (0, 1), (1, 0), (1, 1)):
            self.assertIs(is_machine(with_nexts(nexts)), True)
        for at, nexts in enumerate((
            (0, 2), (2, 0), (-1, 0), (0, -1), (0, -2), (0,), (), (0, 1, 0), (0, 1, 1), (False, 0), (0, True),
            (True, True), [0, 1], "01", None, 1, True, (None, 0), (0, "1"), ((0,), 1), (0, [1]), (HUGE, 0),
            nested(5),
        )):
            with self.subTest(at=at):
                self.assertIs(is_machine(with_nexts(nexts)), False)

    def test_nexts_of_eight_states(self):
        for number in range(-2, 11):
            states = idle_states(2, 7) + (((0, 1), (0, number)),)
            self.assertIs(is_machine((2, states)), 0 <= number <= 7)

    def test_each_state_counts(self):
        for at in range(8):
            states = list(idle_states(2, 8))
            states[at] = ((0, 0), (0, 0))
            self.assertIs(is_machine((2, tuple(states))), False)

    def test_lists_where_tuples_must_stand(self):
        letters, (first, second) = ADDING
        self.assertIs(is_machine([letters, (first, second)]), False)
        self.assertIs(is_machine((letters, [first, second])), False)
        self.assertIs(is_machine((letters, (list(first), second))), False)
        self.assertIs(is_machine((letters, (first, list(second)))), False)

    def test_parts_too_many_or_too_few(self):
        self.assertIs(is_machine(ADDING + (0,)), False)
        self.assertIs(is_machine(ADDING[:1]), False)
        self.assertIs(is_machine((2, (ADDING[1][0] + (0,), ADDING[1][1]))), False)
        self.assertIs(is_machine((2, (ADDING[1][0], ADDING[1][1][:1]))), False)
        self.assertIs(is_machine((2, (ADDING[1][0], None))), False)
        self.assertIs(is_machine((2, (0, 1))), False)
        self.assertIs(is_machine((2, ("ab", "cd"))), False)

    def test_of_anything(self):
        for thing in NO_MACHINES:
            self.assertIs(is_machine(thing), False)


class IsWordTest(unittest.TestCase):
    def test_lengths(self):
        for length in (0, 1, 2, 199, 200):
            self.assertIs(is_word(ADDING, (1,) * length), True)
        for length in (201, 202, 1000):
            self.assertIs(is_word(ADDING, (1,) * length), False)

    def test_letters(self):
        for machine in (ADDING, THREE, FOUR):
            for letter in range(-3, 7):
                for word in ((letter,), (0, letter), (letter, 0), (0,) * 199 + (letter,)):
                    self.assertIs(is_word(machine, word), 0 <= letter < machine[0])

    def test_of_anything(self):
        for thing in NO_WORDS:
            self.assertIs(is_word(ADDING, thing), False)
        self.assertIs(is_word(FOUR, (0, 3, True)), False)
        for thing in ODD_THINGS:
            self.assertIs(is_word(ADDING, thing), False)

    def test_no_machine(self):
        for machine in NO_MACHINES:
            for thing in ((), (0, 1), None, []):
                self.assertIs(told_by(is_word, machine, thing), NoMachine)


def turned_as_told(machine, state, word):
    """The document's words, letter by letter."""
    if not word:
        return (), state
    turns, nexts = machine[1][state]
    rest, behind = turned_as_told(machine, nexts[word[0]], word[1:])
    return (turns[word[0]],) + rest, behind


class StateTest(unittest.TestCase):
    def test_by_hand(self):
        for word, turned, behind in (
            ((), (), 0),
            ((0,), (1,), 1),
            ((1,), (0,), 0),
            ((0, 1), (1, 1), 1),
            ((1, 1), (0, 0), 0),
            ((1, 0), (0, 1), 1),
            ((1, 1, 0, 1), (0, 0, 1, 1), 1),
            ((1, 1, 1, 0, 0, 1), (0, 0, 0, 1, 0, 1), 1),
        ):
            self.assertEqual(state_turned(ADDING, 0, word), turned)
            self.assertEqual(state_behind(ADDING, 0, word), behind)
            self.assertEqual(state_turned(ADDING, 1, word), word)
            self.assertEqual(state_behind(ADDING, 1, word), 1)

    def test_three_letters_by_hand(self):
        # 0 as state 0 into 1, on to 0; 1 into 2, on to 1; 2 as state 1 into 1, on to 0; 2 into 0, on to 2.
        self.assertEqual(state_turned(THREE, 0, (0, 1, 2, 2)), (1, 2, 1, 0))
        self.assertEqual(state_behind(THREE, 0, (0, 1, 2, 2)), 2)
        # 2 as state 2 into 0, on to 0; 2 as state 0 into 0, on to 2; 1 as state 2 stays, on to 1.
        self.assertEqual(state_turned(THREE, 2, (2, 2, 1)), (0, 0, 1))
        self.assertEqual(state_behind(THREE, 2, (2, 2, 1)), 1)

    def test_the_empty_word(self):
        for machine in (ADDING, THREE, FOUR, ONE_STATE):
            for state in range(len(machine[1])):
                self.assertEqual(state_turned(machine, state, ()), ())
                self.assertEqual(state_behind(machine, state, ()), state)

    def test_words_of_two_hundred_letters(self):
        self.assertEqual(state_turned(ADDING, 0, (1,) * 200), (0,) * 200)
        self.assertEqual(state_behind(ADDING, 0, (1,) * 200), 0)
        last_zero = (1,) * 199 + (0,)
        self.assertEqual(state_turned(ADDING, 0, last_zero), (0,) * 199 + (1,))
        self.assertEqual(state_behind(ADDING, 0, last_zero), 1)
        self.assertEqual(state_turned(ONE_STATE, 0, (0, 1) * 100), (1, 0) * 100)

    def test_as_the_document_tells(self):
        for machine in small_machines() + [THREE, FOUR]:
            for word in words_to(machine[0], 3):
                for state in range(len(machine[1])):
                    told = (state_turned(machine, state, word), state_behind(machine, state, word))
                    self.assertEqual(told, turned_as_told(machine, state, word))

    def test_kinds_of_what_is_told(self):
        turned = state_turned(FOUR, 5, (0, 3, 2))
        self.assertIs(type(turned), tuple)
        self.assertIs(type(state_behind(FOUR, 5, (0, 3, 2))), int)

    def test_a_state_turns_one_to_one(self):
        words = words_to(3, 4)
        for state in range(3):
            self.assertEqual(sorted([state_turned(THREE, state, word) for word in words]), sorted(words))


class RefusalTest(unittest.TestCase):
    def test_no_machine(self):
        for deed in (state_turned, state_behind):
            for machine in NO_MACHINES:
                self.assertIs(told_by(deed, machine, 0, (0, 1)), NoMachine)

    def test_no_state(self):
        for deed in (state_turned, state_behind):
            for state in NO_STATES:
                self.assertIs(told_by(deed, ADDING, state, (0, 1)), NoState)
            for state in range(-10, 10):
                self.assertIs(told_by(deed, FOUR, state, ()), None if 0 <= state < 8 else NoState)

    def test_no_word(self):
        for deed in (state_turned, state_behind):
            for word in NO_WORDS:
                self.assertIs(told_by(deed, ADDING, 0, word), NoWord)
            self.assertIs(told_by(deed, THREE, 0, (0, 2, 3)), NoWord)
            self.assertIs(told_by(deed, THREE, 0, (0, 2)), None)

    def test_order(self):
        for deed in (state_turned, state_behind):
            for machine in (ADDING, None, [], (2, ())):
                for state in (0, 2, True, "0"):
                    for word in ((0, 1), [0, 1], (2,), None):
                        first = None
                        if machine != ADDING:
                            first = NoMachine
                        elif type(state) is not int or state != 0:
                            first = NoState
                        elif word != (0, 1):
                            first = NoWord
                        self.assertIs(told_by(deed, machine, state, word), first)

    def test_what_is_handed_in_stays_as_it_is(self):
        for thing in ODD_THINGS + NO_WORDS + NO_STATES:
            before = deepcopy(thing)
            is_machine(thing)
            is_word(ADDING, thing)
            for deed in (state_turned, state_behind):
                told_by(deed, thing, thing, thing)
                told_by(deed, ADDING, thing, thing)
                told_by(deed, ADDING, 0, thing)
            self.assertEqual(thing, before)
        machine, word = deepcopy(THREE), (0, 1, 2)
        state_turned(machine, 1, word)
        state_behind(machine, 1, word)
        self.assertEqual((machine, word), (THREE, (0, 1, 2)))


if __name__ == "__main__":
    unittest.main()
