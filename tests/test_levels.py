import unittest
from copy import deepcopy
from itertools import product

from homerounds.doings import doing_of, does, idle
from homerounds.errors import NoDoing, NoFit, NoMachine, NoNumber, NoWord, TooMany
from homerounds.levels import all_words, flocks, rounds, way
from homerounds.machines import state_turned
from homerounds.rows import row_turned
from tests.samples import (
    ADDING, ALESHIN, FOUR, GRIGORCHUK, GUPTA_SIDKI, HUGE, NO_DOINGS, NO_LENGTHS, NO_MACHINES, NO_WORDS, ODD_THINGS,
    ONE_STATE, ROUND_AND_ROUND, SMALL_BEHIND, SWELLING, THREE, Numbers, chain, first_refusal, small_machines, told_by,
)

# The longest words of which there are at most 256.
LONGEST = {2: 8, 3: 5, 4: 4}

MACHINES = (ADDING, ONE_STATE, THREE, FOUR, ALESHIN, GRIGORCHUK, GUPTA_SIDKI)
DOINGS = (ADDING, ONE_STATE, SWELLING, SMALL_BEHIND, ROUND_AND_ROUND, idle(2), idle(3), idle(4), chain(3, 3))


def all_of(letters, length):
    return list(product(range(letters), repeat=length))


class AllWordsTest(unittest.TestCase):
    def test_by_hand(self):
        self.assertEqual(all_words(2, 0), [()])
        self.assertEqual(all_words(2, 2), [(0, 0), (0, 1), (1, 0), (1, 1)])
        self.assertEqual(all_words(3, 1), [(0,), (1,), (2,)])
        self.assertEqual(all_words(4, 2)[:6], [(0, 0), (0, 1), (0, 2), (0, 3), (1, 0), (1, 1)])

    def test_each_length(self):
        for letters in (2, 3, 4):
            for length in range(LONGEST[letters] + 1):
                told = all_words(letters, length)
                self.assertEqual(told, all_of(letters, length))
                self.assertIs(type(told), list)
                self.assertEqual({type(word) for word in told}, {tuple})

    def test_too_many(self):
        for letters in (2, 3, 4):
            for length in range(201):
                told = None if length <= LONGEST[letters] else TooMany
                self.assertIs(told_by(all_words, letters, length), told)
        self.assertEqual(len(all_words(2, 8)), 256)
        self.assertEqual(len(all_words(4, 4)), 256)

    def test_refusals(self):
        bad = (-2, -1, 0, 1, 5, True, False, None, "2", (), (2,), [2], HUGE, -HUGE)
        for letters in bad:
            for length in (0, 3, 9, 200) + NO_LENGTHS:
                self.assertIs(told_by(all_words, letters, length), NoNumber)
        for letters in (2, 3, 4):
            for length in NO_LENGTHS:
                self.assertIs(told_by(all_words, letters, length), NoNumber)


class RoundsTest(unittest.TestCase):
    def test_by_hand(self):
        self.assertEqual(rounds(ADDING, 0), [[()]])
        self.assertEqual(rounds(ADDING, 1), [[(0,), (1,)]])
        self.assertEqual(rounds(ADDING, 2), [[(0, 0), (1, 0), (0, 1), (1, 1)]])
        self.assertEqual(rounds(idle(2), 2), [[(0, 0)], [(0, 1)], [(1, 0)], [(1, 1)]])
        self.assertEqual(rounds(doing_of(ADDING, (0, 0)), 2), [[(0, 0), (0, 1)], [(1, 0), (1, 1)]])
        back_of_three = (3, (((2, 0, 1), (0, 0, 0)),))
        self.assertEqual(rounds(back_of_three, 1), [[(0,), (2,), (1,)]])
        self.assertEqual(rounds((3, (((0, 2, 1), (0, 0, 0)),)), 1), [[(0,)], [(1,), (2,)]])
        self.assertEqual(rounds(SMALL_BEHIND, 1), [[(0,), (1,)], [(2,)]])

    def check(self, doing, length):
        told = rounds(doing, length)
        self.assertEqual(sorted([word for one in told for word in one]), all_of(doing[0], length))
        self.assertEqual(told, sorted(told))
        for one in told:
            self.assertEqual(one[0], min(one))
            for word, following in zip(one, one[1:] + one[:1]):
                self.assertEqual(does(doing, word), following)

    def test_each_length(self):
        for doing in DOINGS:
            for length in range(LONGEST[doing[0]] + 1):
                self.check(doing, length)

    def test_rows(self):
        for machine in (GRIGORCHUK, GUPTA_SIDKI, THREE):
            numbers = Numbers(12)
            for _ in range(20):
                self.check(doing_of(machine, numbers.row(machine, 2)), 4)

    def test_refusals(self):
        doings = [(doing, NoDoing) for doing in NO_DOINGS + ODD_THINGS] + [(ADDING, None), (ROUND_AND_ROUND, None)]
        lengths = [(length, NoNumber) for length in NO_LENGTHS] + [(0, None), (4, None), (9, TooMany), (200, TooMany)]
        for (doing, first), (length, then) in product(doings, lengths):
            self.assertIs(told_by(rounds, doing, length), first or then)

    def test_too_many(self):
        for doing in DOINGS:
            for length in range(201):
                told = None if length <= LONGEST[doing[0]] else TooMany
                self.assertIs(told_by(rounds, doing, length), told)


def flocks_by_joining(machine, length):
    """The words of one flock joined pair by pair, there alone."""
    found = {word: [word] for word in all_of(machine[0], length)}
    for word in all_of(machine[0], length):
        for state in range(len(machine[1])):
            one, other = found[word], found[state_turned(machine, state, word)]
            if one is not other:
                one += other
                for moved in other:
                    found[moved] = one
    return sorted([sorted(flock) for word, flock in found.items() if word == min(flock)])


class FlocksTest(unittest.TestCase):
    def test_by_hand(self):
        self.assertEqual(flocks(ADDING, 0), [[()]])
        self.assertEqual(flocks(ADDING, 2), [[(0, 0), (0, 1), (1, 0), (1, 1)]])
        self.assertEqual(flocks(ONE_STATE, 2), [[(0, 0), (1, 1)], [(0, 1), (1, 0)]])
        self.assertEqual(flocks(idle(3), 1), [[(0,)], [(1,)], [(2,)]])
        self.assertEqual(flocks((4, (((2, 1, 0, 3), (0, 0, 0, 0)),)), 1), [[(0,), (2,)], [(1,)], [(3,)]])
        two = (3, (((1, 0, 2), (0, 0, 0)), ((0, 2, 1), (1, 1, 1))))
        self.assertEqual(flocks(two, 1), [[(0,), (1,), (2,)]])
        self.assertEqual(flocks(two, 2), [
            [(0, 0), (1, 1), (2, 2)], [(0, 1), (0, 2), (1, 0), (1, 2), (2, 0), (2, 1)],
        ])

    def test_each_length(self):
        for machine in MACHINES:
            for length in range(LONGEST[machine[0]] + 1):
                told = flocks(machine, length)
                self.assertEqual(told, flocks_by_joining(machine, length))
                self.assertEqual(told, sorted(told))

    def test_every_small_machine(self):
        for machine in small_machines():
            for length in range(6):
                self.assertEqual(flocks(machine, length), flocks_by_joining(machine, length))

    def test_some(self):
        for letters in (2, 3, 4):
            numbers = Numbers(letters)
            for _ in range(40):
                machine = numbers.machine(letters, 3)
                self.assertEqual(flocks(machine, 3), flocks_by_joining(machine, 3))

    def test_a_machine_that_is_no_doing(self):
        self.assertEqual(flocks((2, (((0, 1), (0, 0)), ((0, 1), (1, 1)))), 1), [[(0,)], [(1,)]])

    def test_refusals(self):
        machines = [(machine, NoMachine) for machine in NO_MACHINES] + [(ADDING, None), (FOUR, None)]
        lengths = [(length, NoNumber) for length in NO_LENGTHS] + [(0, None), (4, None), (9, TooMany), (200, TooMany)]
        for (machine, first), (length, then) in product(machines, lengths):
            self.assertIs(told_by(flocks, machine, length), first or then)

    def test_too_many(self):
        for machine in MACHINES:
            for length in range(201):
                if length > LONGEST[machine[0]]:
                    self.assertIs(told_by(flocks, machine, length), TooMany)


def distances(machine, start):
    """How many signs lead from the start to each word that they lead to."""
    many = len(machine[1])
    told, ahead = {start: 0}, [start]
    while ahead:
        behind = []
        for word in ahead:
            for sign in range(-many, many):
                turned = row_turned(machine, (sign,), word)
                if turned not in told:
                    told[turned] = told[word] + 1
                    behind.append(turned)
        ahead = behind
    return told


class WayTest(unittest.TestCase):
    def check(self, machine, one, other, distance):
        told = way(machine, one, other)
        if distance is None:
            self.assertIs(told, None)
            return
        self.assertIs(type(told), list)
        self.assertEqual(len(told), distance)
        for sign in told:
            one = row_turned(machine, (sign,), one)
        self.assertEqual(one, other)

    def test_by_hand(self):
        self.assertEqual(way(ADDING, (), ()), [])
        self.assertEqual(way(ADDING, (0, 1), (0, 1)), [])
        self.assertEqual(way(ADDING, (0, 0, 0), (1, 1, 0)), [0, 0, 0])
        self.assertEqual(way(ADDING, (0, 0, 0), (0, 1, 1)), [-1, -1])
        self.assertEqual(way(ADDING, (1, 1, 1), (0, 0, 0)), [0])
        self.assertEqual(way(ADDING, (0, 0, 0), (1, 1, 1)), [-1])
        self.assertIs(way(ONE_STATE, (0, 1), (0, 0)), None)
        self.assertIs(way(idle(4), (3,), (2,)), None)
        self.assertIn(way(ONE_STATE, (0, 1), (1, 0)), ([0], [-1]))
        self.assertEqual(way((3, (((0, 1, 2), (0, 0, 0)), ((1, 2, 0), (0, 0, 0)))), (0, 0), (2, 0)), [-2])

    def test_from_one_word_to_each(self):
        for machine in MACHINES:
            for length in range(LONGEST[machine[0]] + 1):
                words = all_of(machine[0], length)
                one = words[len(words) // 3]
                told = distances(machine, one)
                for other in words:
                    self.check(machine, one, other, told.get(other))

    def test_every_small_machine(self):
        for machine in small_machines():
            for one in all_of(2, 3):
                told = distances(machine, one)
                for other in all_of(2, 3):
                    self.check(machine, one, other, told.get(other))

    def test_the_same_for_equal_things(self):
        for one in all_of(2, 4):
            told = way(GRIGORCHUK, one, (1, 0, 1, 1))
            self.assertEqual(way(deepcopy(GRIGORCHUK), tuple(list(one)), (1, 0, 1, 1)), told)

    def test_there_is_a_way_just_within_a_flock(self):
        for machine in (ONE_STATE, THREE, (2, (((0, 1), (0, 1)), ((1, 0), (0, 0))))):
            flock_of = {word: flock for flock in flocks(machine, 3) for word in flock}
            for one, other in product(flock_of, repeat=2):
                self.assertEqual(way(machine, one, other) is not None, other in flock_of[one])

    def test_too_many(self):
        for machine in MACHINES:
            for length in (0, 1, 2, 3, 4, 5, 6, 7, 8, 9, 10, 100, 199, 200):
                word = (0,) * length
                told = None if length <= LONGEST[machine[0]] else TooMany
                self.assertIs(told_by(way, machine, word, word), told)

    def test_unlike_lengths(self):
        for one, other in product(range(12), repeat=2):
            told = NoFit if one != other else TooMany if one > 8 else None
            self.assertIs(told_by(way, ADDING, (0,) * one, (1,) * other), told)
        self.assertIs(told_by(way, ADDING, (0,) * 200, (0,) * 199), NoFit)

    def test_refusals(self):
        machines = [(machine, NoMachine) for machine in (None, [], (2, ()), (3, ADDING[1]))] + [(ADDING, None)]
        words = [(word, NoWord) for word in NO_WORDS] + [((0, 1), None), ((1,), None), ((0,) * 9, None)]
        for (machine, first), (one, then), (other, at_last) in product(machines, words, words):
            told = first_refusal(first, then, at_last)
            if told is None:
                told = NoFit if len(one) != len(other) else TooMany if len(one) > 8 else None
            self.assertIs(told_by(way, machine, one, other), told)
        for machine in NO_MACHINES:
            self.assertIs(told_by(way, machine, (0,), (1,)), NoMachine)
            self.assertIs(told_by(way, machine, None, ()), NoMachine)


class NothingChangesTest(unittest.TestCase):
    def test_what_is_handed_in_stays_as_it_is(self):
        for thing in ODD_THINGS + NO_DOINGS + NO_LENGTHS + NO_WORDS:
            before = deepcopy(thing)
            for deed in (all_words, rounds, flocks):
                told_by(deed, thing, thing)
            told_by(all_words, 2, thing)
            told_by(rounds, ADDING, thing)
            told_by(flocks, ADDING, thing)
            told_by(way, thing, thing, thing)
            told_by(way, ADDING, thing, thing)
            told_by(way, ADDING, (0, 1), thing)
            self.assertEqual(thing, before)
        machine, one, other = deepcopy(THREE), (0, 1, 2), (2, 2, 2)
        way(machine, one, other)
        flocks(machine, 3)
        self.assertEqual((machine, one, other), (THREE, (0, 1, 2), (2, 2, 2)))

    def test_told_lists_are_new_ones(self):
        for deed, handed_in in (
            (all_words, (2, 3)), (rounds, (ADDING, 3)), (rounds, (idle(3), 2)), (flocks, (ONE_STATE, 3)),
            (flocks, (THREE, 0)), (way, (ADDING, (0, 0, 0), (1, 1, 0))), (way, (ADDING, (), ())),
        ):
            told = deed(*handed_in)
            before = deepcopy(told)
            for inner in told:
                if isinstance(inner, list):
                    inner.append("changed")
            told.append("changed")
            told.insert(0, None)
            self.assertEqual(deed(*handed_in), before)
            again = deed(*handed_in)
            again.clear()
            self.assertEqual(deed(*handed_in), before)


if __name__ == "__main__":
    unittest.main()
