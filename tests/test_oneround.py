import unittest
from copy import deepcopy
from itertools import product

from homerounds.doings import behind, does, idle
from homerounds.errors import NoDoing, NoFit, NoNumber
from homerounds.levels import rounds
from homerounds.oneround import odd, one_round
from tests import reference
from tests.samples import (
    ADDING, ALESHIN, GRIGORCHUK, MARKED_13, MARKED_14, MORE_ALONG, NO_DOINGS, NO_LENGTHS, ODD_THINGS, ONE_STATE,
    ROUND_AND_ROUND, SEVENTEEN_RETURNS, SIXTEEN_ALONG, SIXTEEN_RETURNS, SMALL_BEHIND, SWELLING, Numbers, chain,
    first_refusal, some_doings, told_by,
)

# Of one, two, three and four states; one round as long as there are so many letters, and with one more no longer.
PARTED_LATE = (
    (2, (((1, 0), (0, 0)),)),
    (2, (((1, 0), (0, 1)), ((0, 1), (0, 1)))),
    (2, (((1, 0), (0, 1)), ((0, 1), (0, 2)), ((1, 0), (0, 0)))),
    (2, (((1, 0), (1, 2)), ((0, 1), (3, 1)), ((1, 0), (0, 0)), ((1, 0), (3, 0)))),
)
ALESHIN_DOING = reference.row_doing(ALESHIN, (0,))
KNOWN = (
    ADDING, ONE_STATE, idle(2), reference.back(ADDING), reference.row_doing(GRIGORCHUK, (0, 1)), SWELLING,
    ALESHIN_DOING,
    chain(2, 2), chain(2, 16), MARKED_13, MARKED_14, SIXTEEN_RETURNS[0], SEVENTEEN_RETURNS[0], SIXTEEN_ALONG[0][0],
    MORE_ALONG[0][0],
) + PARTED_LATE


def doings_that_turn_about(states, many, seed):
    """Doings of two letters and just so many states that turn the first letter about."""
    numbers = Numbers(seed)
    told = []
    while len(told) < many:
        table = [((1, 0), (numbers.below(states), numbers.below(states)))]
        table += [(numbers.turns(2), (numbers.below(states), numbers.below(states))) for _ in range(states - 1)]
        doing = reference.least(2, reference.doing_chain((2, tuple(table))))
        if len(doing[1]) == states:
            told.append(doing)
    return told


def is_one_round(doing, length):
    """By going once round."""
    word = turned = (0,) * length
    for many in range(1, 2 ** length + 1):
        turned = does(doing, turned)
        if turned == word:
            return many == 2 ** length


class OddTest(unittest.TestCase):
    def test_by_hand(self):
        for doing, length, told in (
            (ADDING, 0, 1), (ADDING, 1, 1), (ADDING, 200, 1), (idle(2), 0, 0), (idle(2), 200, 0), (ONE_STATE, 0, 1),
            (ONE_STATE, 1, 0), (ONE_STATE, 200, 0), (chain(2, 2), 0, 1), (chain(2, 2), 1, 0), (chain(2, 16), 14, 0),
            (chain(2, 3), 0, 0), (PARTED_LATE[1], 1, 1), (PARTED_LATE[1], 2, 0), (PARTED_LATE[3], 4, 0),
        ):
            with self.subTest(doing=doing, length=length):
                self.assertEqual(odd(doing, length), told)
                self.assertIs(type(odd(doing, length)), int)

    def test_against_words_gone_through_one_by_one(self):
        for doing in KNOWN + tuple(some_doings(2, 40, 600)):
            for length in range(8):
                many = 0
                for word in product(range(2), repeat=length):
                    many += does(behind(doing, word), (0,)) == (1,)
                self.assertEqual(odd(doing, length), many % 2)

    def test_long_words(self):
        for doing in KNOWN + tuple(doings_that_turn_about(16, 10, 601)):
            for length in list(range(30)) + [60, 128, 199, 200]:
                self.assertEqual(odd(doing, length), reference.odd(doing, length))

    def test_returns_are_not_asked_for(self):
        for doing in (SEVENTEEN_RETURNS[0], ALESHIN_DOING, SWELLING, reference.row_doing(ALESHIN, (0, 1))):
            self.assertIs(told_by(odd, doing, 7), None)
            self.assertIs(told_by(one_round, doing), None)


class OneRoundTest(unittest.TestCase):
    def check(self, doing):
        """What is told, by the words of it; and by rounds gone through, where there are few words."""
        told = one_round(doing)
        self.assertIs(type(told), tuple)
        self.assertEqual(len(told), 2)
        bits = [reference.odd(doing, length) for length in range(len(doing[1]) + 1)]
        if 0 in bits:
            self.assertEqual(told, ("parted", bits.index(0) + 1))
            self.assertIs(type(told[1]), int)
        else:
            self.assertEqual(told, ("one", tuple(bits)))
            self.assertEqual([type(bit) for bit in told[1]], [int] * len(bits))
            # It stays so: no bit further on is 0.
            self.assertNotIn(0, [reference.odd(doing, length) for length in range(80)])
        for length in range(9):
            self.assertEqual(is_one_round(doing, length), told[0] == "one" or length < told[1])
        return told

    def test_by_hand(self):
        for doing, told in (
            (ADDING, ("one", (1, 1, 1))), (reference.back(ADDING), ("one", (1, 1, 1))), (idle(2), ("parted", 1)),
            (ONE_STATE, ("parted", 2)), (chain(2, 2), ("parted", 2)), (chain(2, 5), ("parted", 1)),
            (PARTED_LATE[0], ("parted", 2)), (PARTED_LATE[1], ("parted", 3)), (PARTED_LATE[2], ("parted", 4)),
            (PARTED_LATE[3], ("parted", 5)), ((2, (((1, 0), (0, 1)), ((0, 1), (0, 0)))), ("one", (1, 1, 1))),
        ):
            with self.subTest(doing=doing):
                self.assertEqual(one_round(doing), told)
                self.check(doing)

    def test_known_ones(self):
        for doing in KNOWN:
            self.check(doing)

    def test_by_rounds_of_words(self):
        for doing in KNOWN:
            told = one_round(doing)
            for length in range(7):
                self.assertEqual(len(rounds(doing, length)) == 1, told[0] == "one" or length < told[1])

    def test_every_doing_of_two_states(self):
        told = {}
        for states in product(product(((0, 1), (1, 0)), product(range(2), repeat=2)), repeat=2):
            doing = reference.least(2, reference.doing_chain((2, states)))
            told[self.check(doing)] = True
        self.assertEqual(sorted(told), [("one", (1, 1, 1)), ("parted", 1), ("parted", 2), ("parted", 3)])

    def test_many(self):
        seen = {}
        for states in range(3, 12):
            for doing in doings_that_turn_about(states, 60, 610 + states):
                told = self.check(doing)
                seen[(states, told[0] if told[0] == "one" else told[1])] = True
        # With one letter more than there are states it may just still be parted, and else it never is.
        for states in (3, 4, 6, 8):
            self.assertIn((states, states + 1), seen)
        self.assertIn((3, "one"), seen)
        self.assertIn((5, "one"), seen)


class RefusalTest(unittest.TestCase):
    def test_no_doing(self):
        for doing in NO_DOINGS + ODD_THINGS + (ALESHIN, GRIGORCHUK):
            self.assertIs(told_by(one_round, doing), NoDoing)
            for length in (0, 3, None, -1):
                self.assertIs(told_by(odd, doing, length), NoDoing)

    def test_no_number(self):
        for doing in (ADDING, idle(3), idle(4), ROUND_AND_ROUND, SMALL_BEHIND):
            for length in NO_LENGTHS:
                self.assertIs(told_by(odd, doing, length), NoNumber)
        for length in range(-3, 205):
            self.assertIs(told_by(odd, ADDING, length), None if 0 <= length <= 200 else NoNumber)

    def test_no_fit(self):
        for doing in (idle(3), idle(4), ROUND_AND_ROUND, SMALL_BEHIND, chain(3, 16), chain(4, 2)):
            self.assertIs(told_by(one_round, doing), NoFit)
            for length in (0, 1, 200):
                self.assertIs(told_by(odd, doing, length), NoFit)

    def test_several_at_once(self):
        for doing, length in product((ADDING, idle(3), None, ALESHIN, (3, ())), (0, 200, 201, None, True)):
            refused = first_refusal(
                None if doing in (ADDING, idle(3)) else NoDoing, None if length in (0, 200) else NoNumber,
                NoFit if doing == idle(3) else None,
            )
            self.assertIs(told_by(odd, doing, length), refused)


class NothingChangesTest(unittest.TestCase):
    def test_what_is_handed_in_stays_as_it_is(self):
        for thing in ODD_THINGS + NO_DOINGS + NO_LENGTHS + KNOWN:
            before = deepcopy(thing)
            told_by(one_round, thing)
            told_by(odd, thing, thing)
            told_by(odd, ADDING, thing)
            self.assertEqual(thing, before)

    def test_the_same_is_told_again(self):
        for doing in KNOWN:
            self.assertEqual(one_round(doing), one_round(deepcopy(doing)))


if __name__ == "__main__":
    unittest.main()
