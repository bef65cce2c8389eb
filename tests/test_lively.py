import unittest
from copy import deepcopy
from itertools import product

from homerounds.doings import behind, idle
from homerounds.errors import NoDoing, NoNumber
from homerounds.lively import kind, lively
from tests import reference
from tests.samples import (
    ADDING, ALESHIN, GRIGORCHUK, GUPTA_SIDKI, MARKED_13, MARKED_14, MORE_ALONG, NO_DOINGS, NO_LENGTHS, ODD_THINGS,
    ONE_STATE, ROUND_AND_ROUND, SEVENTEEN_RETURNS, SIXTEEN_ALONG, SIXTEEN_RETURNS, SMALL_BEHIND, SWELLING, Numbers,
    chain, held_doings, some_doings, told_by, words_to,
)

A_B = reference.row_doing(GRIGORCHUK, (0, 1))
A_T = reference.row_doing(GUPTA_SIDKI, (0, 1))


def least_of(letters, states):
    return reference.least(letters, reference.doing_chain((letters, tuple(states))))


def rings_in_a_row(many):
    """So many rings, each with a way to the next one; behind the last one the idle state."""
    states = [((1, 0), (at, at + 1)) for at in range(many)]
    return least_of(2, states + [((0, 1), (many, many))])


def long_rings(lengths):
    """Rings of these lengths, one behind another: letter 0 goes round, letter 1 leads on from a ring's first state."""
    total = sum(lengths)
    states = []
    for at, length in enumerate(lengths):
        first = len(states)
        ahead = first + length
        for place in range(length):
            onward = ahead if place == 0 and at + 1 < len(lengths) else total
            states.append(((1, 0) if place == length - 1 else (0, 1), (first + (place + 1) % length, onward)))
    return least_of(2, states + [((0, 1), (total, total))])


KNOWN = (
    ADDING, ONE_STATE, idle(2), idle(3), idle(4), A_B, A_T, chain(2, 16), chain(3, 7), chain(4, 2), SWELLING,
    ROUND_AND_ROUND, SMALL_BEHIND, MARKED_13, MARKED_14, reference.row_doing(GRIGORCHUK, (1,)), SIXTEEN_ALONG[1][0],
    MORE_ALONG[0][0], rings_in_a_row(1), rings_in_a_row(15), rings_in_a_row(7), long_rings((15,)),
    long_rings((4, 3, 8)), long_rings((1, 5, 1, 2, 2)), reference.back(SWELLING),
) + SIXTEEN_RETURNS + SEVENTEEN_RETURNS


class LivelyTest(unittest.TestCase):
    def test_by_hand(self):
        for doing, length, told in (
            (ADDING, 0, 1), (ADDING, 7, 1), (ADDING, 200, 1), (idle(2), 0, 0), (idle(4), 200, 0), (ONE_STATE, 0, 1),
            (ONE_STATE, 7, 128), (chain(2, 2), 0, 1), (chain(2, 2), 1, 0), (chain(2, 5), 3, 8), (chain(2, 5), 4, 0),
            (chain(4, 16), 14, 4 ** 14),
            (chain(4, 16), 15, 0), (ALESHIN_DOING, 0, 1), (ALESHIN_DOING, 200, 2 ** 200), (rings_in_a_row(2), 5, 6),
            (rings_in_a_row(15), 0, 1),
        ):
            with self.subTest(doing=doing, length=length):
                self.assertEqual(lively(doing, length), told)

    def test_against_all_words(self):
        for doing in KNOWN + tuple(some_doings(2, 20, 1) + some_doings(3, 10, 2) + some_doings(4, 8, 3)):
            counts = {}
            for word in words_to(doing[0], {2: 8, 3: 5, 4: 4}[doing[0]]):
                nothing = behind(doing, word) == idle(doing[0])
                counts[len(word)] = counts.get(len(word), 0) + (not nothing)
            for length, many in counts.items():
                self.assertEqual(lively(doing, length), many)

    def test_long_words(self):
        for doing in KNOWN:
            alive = reference.lively_states(doing)
            self.assertLessEqual(len(doing[1]), 16)
            for length in (13, 60, 199, 200):
                counts = reference.words_to_states(doing, length)
                self.assertEqual(lively(doing, length), sum([counts.get(at, 0) for at in alive]))

    def test_of_sixteen_states(self):
        for doing in (chain(3, 16), MARKED_14, rings_in_a_row(15), ROUND_AND_ROUND_AND_MORE):
            self.assertEqual(len(doing[1]), 16)
            for length in range(201):
                alive, counts = reference.lively_states(doing), reference.words_to_states(doing, length)
                self.assertEqual(lively(doing, length), sum([counts.get(at, 0) for at in alive]))

    def test_returns_are_not_asked_for(self):
        for doing in (SMALL_BEHIND, ROUND_AND_ROUND, SEVENTEEN_RETURNS[0]):
            self.assertIs(reference.returns(doing), None)
            self.assertIs(told_by(lively, doing, 9), None)
            self.assertIs(told_by(kind, doing), None)


ALESHIN_DOING = reference.row_doing(ALESHIN, (0,))
ROUND_AND_ROUND_AND_MORE = least_of(4, [
    (((at + 1) % 4, (at + 2) % 4, (at + 3) % 4, at % 4), ((at + 1) % 15, 15, (at * 3) % 15, 15 - (at % 2) * 7))
    for at in range(15)
] + [((0, 1, 2, 3), (15,) * 4)])


class KindTest(unittest.TestCase):
    def is_word(self, doing, thing):
        self.assertIs(type(thing), tuple)
        self.assertLessEqual(len(thing), 200)
        for letter in thing:
            self.assertIs(type(letter), int)
            self.assertTrue(0 <= letter < doing[0])

    def state_of(self, doing, at):
        return reference.state_doing(doing, at)

    def check_rings(self, doing, told):
        """All of what is told by rings, but that there are as many as can be."""
        self.assertEqual(len(told), 3)
        self.assertIs(type(told[1]), int)
        self.assertIs(type(told[2]), list)
        self.assertEqual(len(told[2]), told[1] + 1)
        at, met = 0, []
        for one in told[2]:
            self.assertIs(type(one), tuple)
            lead, ring = one
            self.is_word(doing, lead)
            self.is_word(doing, ring)
            self.assertGreater(len(ring), 0)
            for letter in lead:
                at = doing[1][at][1][letter]
            self.assertFalse(reference.is_idle(self.state_of(doing, at)))
            around = at
            for letter in ring:
                around = doing[1][around][1][letter]
            self.assertEqual(around, at)
            for ahead in met:
                self.assertNotEqual(ahead, at)
                self.assertNotIn((at, ahead), reference.led_to(doing))
            met.append(at)

    def check_two_ways(self, doing, told):
        self.assertEqual(len(told), 4)
        for word in told[1:]:
            self.is_word(doing, word)
        _, lead, one, other = told
        at = reference.state_at(doing, lead)
        self.assertFalse(reference.is_idle(self.state_of(doing, at)))
        for ring in (one, other):
            self.assertEqual(reference.state_at(doing, lead + ring), at)
        self.assertNotEqual(one[:len(other)], other)
        self.assertNotEqual(other[:len(one)], one)

    def check_kind(self, doing):
        told = kind(doing)
        self.assertIs(type(told), tuple)
        expected = reference.kind_and_number(doing)
        self.assertEqual(told[:len(expected)], expected)
        if told[0] == "ends":
            self.assertEqual(len(told), 2)
            self.assertIs(type(told[1]), int)
        elif told[0] == "power":
            self.check_rings(doing, told)
        else:
            self.check_two_ways(doing, told)
        return told[0]

    def test_known_ones(self):
        for doing in KNOWN + (ALESHIN_DOING, ROUND_AND_ROUND_AND_MORE):
            with self.subTest(doing=doing):
                self.check_kind(doing)

    def test_by_hand(self):
        for doing, told in (
            (idle(2), ("ends", 0)), (idle(3), ("ends", 0)), (idle(4), ("ends", 0)), (chain(2, 2), ("ends", 1)),
            (chain(2, 16), ("ends", 15)), (chain(3, 2), ("ends", 1)), (chain(4, 9), ("ends", 8)),
        ):
            self.assertEqual(kind(doing), told)
        for doing, power in (
            (ADDING, 0), (rings_in_a_row(1), 0), (rings_in_a_row(2), 1), (rings_in_a_row(15), 14),
            (long_rings((15,)), 0), (long_rings((4, 3, 8)), 2), (long_rings((1, 1, 1, 1)), 3), (A_B, 0),
            (reference.row_doing(GRIGORCHUK, (1,)), 0), (MARKED_14, 0),
        ):
            self.assertEqual(kind(doing)[:2], ("power", power))
        for doing in (ALESHIN_DOING, ONE_STATE, ROUND_AND_ROUND_AND_MORE, DOUBLES_FAR, DOUBLES_BY_LONG_WAYS):
            self.assertEqual(kind(doing)[0], "doubles")

    def test_doubling_needs_not_show_at_one_state(self):
        for doing in (DOUBLES_FAR, DOUBLES_BY_LONG_WAYS):
            self.check_kind(doing)

    def test_rings_beside_one_another(self):
        # Two ways part at once, one through three rings, the other through one and then through two.
        states = [
            ((0, 1, 2), (1, 4, 8)),
            ((1, 0, 2), (1, 2, 8)), ((0, 1, 2), (2, 3, 8)), ((2, 1, 0), (3, 8, 8)),
            ((0, 2, 1), (5, 8, 6)), ((1, 2, 0), (4, 8, 8)), ((0, 1, 2), (7, 6, 8)), ((2, 0, 1), (7, 8, 8)),
            ((0, 1, 2), (8, 8, 8)),
        ]
        doing = least_of(3, states)
        self.assertEqual(kind(doing)[:2], ("power", 2))
        self.check_kind(doing)
        states[3] = ((2, 1, 0), (8, 8, 8))
        doing = least_of(3, states)
        self.assertEqual(kind(doing)[:2], ("power", 2))
        self.check_kind(doing)
        states[7] = ((2, 0, 1), (8, 8, 8))
        doing = least_of(3, states)
        self.assertEqual(kind(doing)[:2], ("power", 1))
        self.check_kind(doing)

    def test_many(self):
        seen = {}
        for letters in (2, 3, 4):
            for doing in some_doings(letters, 60, 200 + letters) + held_doings(letters, 60, 300 + letters):
                told = self.check_kind(doing)
                seen[told] = seen.get(told, 0) + 1
        self.assertEqual(len(seen), 3)

    def test_many_that_lead_ever_on(self):
        numbers = Numbers(88)
        seen = {}
        for _ in range(300):
            letters = numbers.within(2, 4)
            many = numbers.within(2, 12)
            # Mostly onward, so that few lead back.
            states = [
                (numbers.turns(letters), tuple([
                    numbers.below(many + 1) if numbers.below(12) == 0 else at if letter == 0 and numbers.below(2)
                    else numbers.within(at + 1, many) for letter in range(letters)
                ])) for at in range(many)
            ]
            doing = least_of(letters, states + [(tuple(range(letters)), (many,) * letters)])
            self.check_kind(doing)
            told = kind(doing)
            key = told[:2] if told[0] != "doubles" else told[:1]
            seen[key] = seen.get(key, 0) + 1
        self.assertGreater(len(seen), 8)

    def test_as_many_words_as_the_kind_tells(self):
        for doing in KNOWN:
            told = kind(doing)
            counts = [lively(doing, length) for length in range(201)]
            if told[0] == "ends":
                self.assertEqual([many > 0 for many in counts], [length < told[1] for length in range(201)])
            elif told[0] == "power":
                # No ring goes on for more than 15 letters, and there are at most 4 ways on at each one.
                self.assertGreater(min(counts), 0)
                self.assertLess(max(counts), 4 ** 15 * 201 ** told[1])
                self.assertGreaterEqual(sum(counts), (200 // 15 // (told[1] + 1)) ** (told[1] + 1))
            else:
                self.assertGreater(counts[200], 2 ** 12)


# Behind long words alone there are two ways round; and no one letter shows it.
DOUBLES_FAR = least_of(2, [((0, 1), (at + 1, at + 1)) for at in range(13)] + [((1, 0), (13, 14)), ((0, 1), (13, 13))])
DOUBLES_BY_LONG_WAYS = least_of(3, [
    ((0, 1, 2), (1, 7, 7)), ((1, 0, 2), (2, 4, 7)), ((0, 1, 2), (3, 7, 7)), ((0, 2, 1), (0, 7, 7)),
    ((0, 1, 2), (5, 7, 7)), ((1, 2, 0), (6, 7, 7)), ((0, 1, 2), (7, 7, 1)), ((0, 1, 2), (7, 7, 7)),
])


class RefusalTest(unittest.TestCase):
    def test_no_doing(self):
        for doing in NO_DOINGS + ODD_THINGS + (ALESHIN, GRIGORCHUK):
            self.assertIs(told_by(kind, doing), NoDoing)
            for length in (0, 5, None, -1, 201):
                self.assertIs(told_by(lively, doing, length), NoDoing)

    def test_no_number(self):
        for doing in (ADDING, SMALL_BEHIND, ROUND_AND_ROUND, idle(4)):
            for length in NO_LENGTHS:
                self.assertIs(told_by(lively, doing, length), NoNumber)
            for length in range(-3, 205):
                self.assertIs(told_by(lively, doing, length), None if 0 <= length <= 200 else NoNumber)

    def test_several_at_once(self):
        for doing, length in product((ADDING, None, ALESHIN), (1, 201, True)):
            refused = NoDoing if doing != ADDING else NoNumber if length != 1 or length is True else None
            self.assertIs(told_by(lively, doing, length), refused)


class NothingChangesTest(unittest.TestCase):
    def test_what_is_handed_in_stays_as_it_is(self):
        for thing in ODD_THINGS + NO_DOINGS + NO_LENGTHS + KNOWN:
            before = deepcopy(thing)
            told_by(kind, thing)
            told_by(lively, thing, thing)
            told_by(lively, ADDING, thing)
            self.assertEqual(thing, before)

    def test_told_lists_are_new_ones(self):
        for doing in (ADDING, rings_in_a_row(5), long_rings((4, 3, 8))):
            told = kind(doing)
            before = deepcopy(told)
            told[2].reverse()
            told[2].append("changed")
            self.assertEqual(kind(doing), before)
            self.assertEqual(kind(deepcopy(doing)), before)
            told[2].clear()
            self.assertEqual(kind(doing), before)
        for doing in KNOWN:
            self.assertEqual(kind(doing), kind(deepcopy(doing)))


if __name__ == "__main__":
    unittest.main()
