import unittest
from copy import deepcopy
from itertools import combinations, permutations, product

from homerounds.doings import back, behind, doing_of, does, first_unlike, idle, is_doing, joined, times
from homerounds.errors import NoDoing, NoFit, NoMachine, NoNumber, NoRow, NoWord, TooMany
from homerounds.rows import row_back, row_behind, row_turned
from tests import reference
from tests.samples import (
    ADDING, ALESHIN, FOUR, GRIGORCHUK, GUPTA_SIDKI, HUGE, NO_DOINGS, NO_MACHINES, NO_ROWS, NO_WORDS, ODD_THINGS,
    ONE_STATE, ROUND_AND_ROUND, SEVENTEEN_RETURNS, SIXTEEN_RETURNS, SMALL_BEHIND, SWELLING, THREE, Numbers, chain,
    first_refusal, or_too_many, rows_to, small_machines, some_doings, told_by, words_to,
)

IDLE = {letters: (letters, ((tuple(range(letters)), (0,) * letters),)) for letters in (2, 3, 4)}

HELD = (
    IDLE[2], IDLE[3], IDLE[4], ONE_STATE, ADDING, SWELLING, ROUND_AND_ROUND, SMALL_BEHIND,
    chain(2, 16), chain(3, 16), chain(4, 16), chain(2, 2), chain(3, 5),
) + SIXTEEN_RETURNS + SEVENTEEN_RETURNS


def is_least(table):
    return reference.least(table[0], reference.doing_chain(table)) == table


def with_state(table, at, state):
    letters, states = table
    return (letters, states[:at] + (state,) + states[at + 1:])


def renumbered(table, places):
    """The table in another order: state number k stands in the place places[k] then."""
    letters, states = table
    told = [None] * len(states)
    for at, (turns, nexts) in enumerate(states):
        told[places[at]] = (turns, tuple([places[following] for following in nexts]))
    return (letters, tuple(told))


class IsDoingTest(unittest.TestCase):
    def test_held_ones(self):
        for doing in HELD:
            with self.subTest(doing=doing):
                self.assertIs(is_doing(doing), True)

    def test_sixteen_states_and_one_more(self):
        for letters in (2, 3, 4):
            for many in range(1, 24):
                self.assertIs(is_doing(chain(letters, many)), many <= 16)

    def test_every_small_table(self):
        told = 0
        for machine in small_machines():
            self.assertIs(is_doing(machine), is_least(machine))
            told += is_doing(machine)
        # With one state both; with two those where the second one is come to and turns otherwise.
        self.assertEqual(told, 2 + 2 * 3 * 4)

    def test_a_turn_otherwise(self):
        for doing in HELD:
            for at, (turns, nexts) in enumerate(doing[1]):
                for one, other in combinations(range(doing[0]), 2):
                    others = list(turns)
                    others[one], others[other] = turns[other], turns[one]
                    table = with_state(doing, at, (tuple(others), nexts))
                    self.assertIs(is_doing(table), is_least(table))
                for worth in (-1, doing[0], True, False, None, "0", (0,), HUGE):
                    table = with_state(doing, at, ((worth,) + turns[1:], nexts))
                    self.assertIs(is_doing(table), False)
                for others in (turns[1:], turns + (0,), (turns[0],) + turns[:-1], list(turns), (), None):
                    self.assertIs(is_doing(with_state(doing, at, (others, nexts))), False)

    def test_a_next_state_otherwise(self):
        for doing in HELD:
            for at, (turns, nexts) in enumerate(doing[1]):
                for letter in range(doing[0]):
                    many = len(doing[1])
                    for worth in range(many) if many < 16 else (0, 1, at, many - 2, many - 1):
                        table = with_state(doing, at, (turns, nexts[:letter] + (worth,) + nexts[letter + 1:]))
                        self.assertIs(is_doing(table), is_least(table))
                    for worth in (-1, many, True, False, None, "0", (0,), HUGE):
                        table = with_state(doing, at, (turns, nexts[:letter] + (worth,) + nexts[letter + 1:]))
                        self.assertIs(is_doing(table), False)
                for others in (nexts[1:], nexts + (0,), list(nexts), (), None):
                    self.assertIs(is_doing(with_state(doing, at, (turns, others))), False)

    def test_a_number_of_letters_otherwise(self):
        for doing in HELD:
            for letters in (-1, 0, 1, 2, 3, 4, 5, True, False, None, "2", (2,), HUGE):
                if letters != doing[0] or letters is True:
                    self.assertIs(is_doing((letters, doing[1])), False)

    def test_a_state_otherwise(self):
        for doing in HELD:
            for at, state in enumerate(doing[1]):
                for other in (None, 0, (), list(state), state[:1], state + ((),), state[::-1] + (0,), (state,), "ab"):
                    self.assertIs(is_doing(with_state(doing, at, other)), False)

    def test_in_another_order(self):
        for doing in HELD:
            many = len(doing[1])
            orders = list(permutations(range(many))) if many <= 5 else []
            for one, other in combinations(range(many), 2):
                places = list(range(many))
                places[one], places[other] = other, one
                orders.append(tuple(places))
            for places in orders:
                told = is_doing(renumbered(doing, places))
                # Exchanged with state 0 a table may be the least one of another doing, else it's none.
                if places[0] == 0:
                    self.assertIs(told, places == tuple(range(many)))
                else:
                    self.assertIs(told, is_least(renumbered(doing, places)))

    def test_a_state_twice(self):
        for doing in HELD:
            letters, states = doing
            for at, (turns, nexts) in enumerate(states):
                for letter in range(letters):
                    # The state that is handed on to is told once more behind all others.
                    twice = states + (states[nexts[letter]],)
                    more = (turns, nexts[:letter] + (len(states),) + nexts[letter + 1:])
                    self.assertIs(is_doing(with_state((letters, twice), at, more)), False)

    def test_a_state_more(self):
        for doing in HELD:
            letters, states = doing
            many = len(states)
            for state in (states[0], states[-1], (tuple(range(letters)), (many,) * letters),
                          (tuple(range(letters))[::-1], (0,) * letters), (states[0][0], (many,) * letters)):
                self.assertIs(is_doing((letters, states + (state,))), False)

    def test_a_state_less(self):
        for doing in HELD:
            letters, states = doing
            self.assertIs(is_doing((letters, states[:-1])), False)

    def test_of_anything(self):
        for thing in ODD_THINGS + NO_DOINGS:
            self.assertIs(is_doing(thing), False)


class DoingOfTest(unittest.TestCase):
    def test_by_hand(self):
        nothing = ((0, 1), (0, 0))
        for row, states in (
            ((), (nothing,)),
            ((1,), (nothing,)),
            ((-2,), (nothing,)),
            ((0,), ADDING[1]),
            ((0, 1, -2), ADDING[1]),
            ((-1,), (((1, 0), (0, 1)), ((0, 1), (1, 1)))),
            ((0, -1), (nothing,)),
            ((0, 0), (((0, 1), (1, 1)), ((1, 0), (2, 1)), ((0, 1), (2, 2)))),
            ((-1, -1), (((0, 1), (1, 1)), ((1, 0), (1, 2)), ((0, 1), (2, 2)))),
            ((0, 0, 0), (((1, 0), (1, 2)), ((1, 0), (3, 1)), ((0, 1), (1, 1)), ((0, 1), (3, 3)))),
            ((0, 0, -1), ADDING[1]),
        ):
            with self.subTest(row=row):
                self.assertEqual(doing_of(ADDING, row), (2, states))

    def test_states_are_numbered_by_words(self):
        # Behind letter 0 stands c, behind 1 stands b.
        self.assertEqual(doing_of(ALESHIN, (0,)), (2, (((1, 0), (1, 2)), ((0, 1), (0, 0)), ((1, 0), (2, 1)))))
        self.assertEqual(doing_of(ALESHIN, (2,)), (2, (((0, 1), (1, 1)), ((1, 0), (0, 2)), ((1, 0), (2, 0)))))
        self.assertEqual(doing_of(GRIGORCHUK, (1,)), (2, (
            ((0, 1), (1, 2)), ((1, 0), (3, 3)), ((0, 1), (1, 4)), ((0, 1), (3, 3)), ((0, 1), (3, 0)),
        )))
        self.assertEqual(doing_of(GUPTA_SIDKI, (1,)), (3, (
            ((0, 1, 2), (1, 2, 0)), ((1, 2, 0), (3, 3, 3)), ((2, 0, 1), (3, 3, 3)), ((0, 1, 2), (3, 3, 3)),
        )))

    def test_the_first_sign_is_done_first(self):
        self.assertEqual(does(doing_of(THREE, (0, 1)), (0,)), (2,))
        self.assertEqual(does(doing_of(THREE, (1, 0)), (0,)), (1,))

    def test_every_small_machine(self):
        for machine in small_machines():
            for row in rows_to(machine, 3):
                self.assertEqual(doing_of(machine, row), reference.row_doing(machine, row))

    def test_up_to_six_signs(self):
        refused = 0
        for letters in (2, 3, 4):
            numbers = Numbers(letters)
            for at in range(260):
                machine = numbers.machine(letters, (2, 3, 5, 8)[at % 4])
                row = numbers.row(machine, 6)
                told = or_too_many(doing_of, machine, row)
                with self.subTest(machine=machine, row=row):
                    self.assertEqual(told, reference.row_doing(machine, row))
                refused += told is None
        self.assertGreater(refused, 50)

    def test_known_machines(self):
        for machine in (ADDING, THREE, ALESHIN, GRIGORCHUK, GUPTA_SIDKI, FOUR):
            numbers = Numbers(len(machine[1]))
            for _ in range(60):
                row = numbers.row(machine, 6)
                self.assertEqual(or_too_many(doing_of, machine, row), reference.row_doing(machine, row))

    def test_words_are_turned_as_by_the_row(self):
        for machine in (ADDING, THREE, GRIGORCHUK, GUPTA_SIDKI):
            for row in rows_to(machine, 2):
                doing = doing_of(machine, row)
                for word in words_to(machine[0], 4):
                    self.assertEqual(does(doing, word), row_turned(machine, row, word))
                    self.assertEqual(behind(doing, word), doing_of(machine, row_behind(machine, row, word)))

    def test_alike_just_where_doings_are_equal(self):
        words = words_to(2, 6)
        numbered = {}
        for row in rows_to(GRIGORCHUK, 2):
            images = tuple([row_turned(GRIGORCHUK, row, word) for word in words])
            numbered.setdefault(doing_of(GRIGORCHUK, row), []).append(images)
        for images in numbered.values():
            self.assertEqual(len(set(images)), 1)
        self.assertEqual(len(set([images[0] for images in numbered.values()])), len(numbered))

    def test_of_whatever_machines(self):
        # The same two states the other way round, and with a third one.
        turned = (2, (((0, 1), (0, 0)), ((1, 0), (0, 1))))
        longer = (2, (((0, 1), (2, 2)), ((1, 0), (2, 1)), ((0, 1), (0, 0))))
        for row in rows_to(ADDING, 4):
            others = tuple([(1, 0, -1, -2)[(0, 1, -2, -1).index(sign)] for sign in row])
            self.assertEqual(doing_of(turned, others), doing_of(ADDING, row))
        for machine in (turned, longer):
            self.assertEqual(doing_of(machine, (1, 1, 0)), doing_of(ADDING, (0, 0)))

    def test_long_rows(self):
        # Sixteen is the fifth bit.
        sixteen = (((0, 1), (1, 1)), ((0, 1), (2, 2)), ((0, 1), (3, 3)), ((0, 1), (4, 4)),
                   ((1, 0), (5, 4)), ((0, 1), (5, 5)))
        self.assertEqual(doing_of(ADDING, (0,) * 16), (2, sixteen))
        self.assertEqual(doing_of(ADDING, (0, -1) * 8), IDLE[2])
        self.assertEqual(doing_of(GRIGORCHUK, (0, 1) * 8), doing_of(GRIGORCHUK, (1, 0) * 8))
        self.assertEqual(doing_of(ADDING, (0,) * 8 + (-1,) * 8), IDLE[2])

    def test_too_many(self):
        self.assertEqual(len(doing_of(ALESHIN, (0, 1))[1]), 9)
        self.assertIs(told_by(doing_of, ALESHIN, (0, 1, 2)), TooMany)
        self.assertIs(told_by(doing_of, ALESHIN, (0, 0, 0, 0)), TooMany)

    def test_too_many_of_a_beginning_alone(self):
        there = (0, 1, 2)
        self.assertIs(told_by(doing_of, ALESHIN, there + row_back(ALESHIN, there)), TooMany)
        self.assertEqual(doing_of(ALESHIN, (0, 1) + row_back(ALESHIN, (0, 1))), IDLE[2])
        # The beginnings of SWELLING's row have 5, 10, 18 and 16 states.
        for many in range(1, 6):
            self.assertIs(told_by(doing_of, SWELLING, (0,) * many), None if many < 3 else TooMany)
        self.assertEqual(len(doing_of(SWELLING, (0, 0))[1]), 10)

    def test_just_sixteen_states(self):
        numbers, seen = Numbers(16), {}
        for _ in range(4000):
            machine = numbers.machine(2, 5)
            row = numbers.row(machine, 4)
            told = or_too_many(doing_of, machine, row)
            if told is not None and len(told[1]) > 14:
                self.assertEqual(told, reference.row_doing(machine, row))
                seen[len(told[1])] = True
        self.assertEqual(sorted(seen), [15, 16])

    def test_refusals(self):
        machines = [(machine, NoMachine) for machine in NO_MACHINES] + [(ADDING, None)]
        rows = [(row, NoRow) for row in NO_ROWS] + [((0, -1), None)]
        for (machine, first), (row, then) in product(machines, rows):
            self.assertIs(told_by(doing_of, machine, row), first or then)


class IdleTest(unittest.TestCase):
    def test_told(self):
        for letters in (2, 3, 4):
            self.assertEqual(idle(letters), IDLE[letters])
            self.assertIs(is_doing(idle(letters)), True)

    def test_refusals(self):
        for letters in (-2, -1, 0, 1, 5, 6, True, False, None, "2", (), (2,), [2], [], HUGE, -HUGE):
            self.assertIs(told_by(idle, letters), NoNumber)


class DoesTest(unittest.TestCase):
    def test_told(self):
        for doing in HELD:
            for word in words_to(doing[0], 4):
                self.assertEqual(does(doing, word), reference.chain_turned(reference.doing_chain(doing), word))

    def test_long_words(self):
        numbers = Numbers(200)
        for doing in HELD:
            word = numbers.word(doing[0], 200)
            self.assertEqual(does(doing, word), reference.chain_turned(reference.doing_chain(doing), word))
        self.assertEqual(does(ADDING, (1,) * 200), (0,) * 200)
        self.assertEqual(does(ADDING, (1,) * 199 + (0,)), (0,) * 199 + (1,))


class BehindTest(unittest.TestCase):
    def test_told(self):
        for doing in HELD:
            letters = doing[0]
            for word in words_to(letters, 3):
                chained = reference.doing_chain(doing)
                for letter in word:
                    chained = reference.step(chained, letter)[1]
                self.assertEqual(behind(doing, word), reference.least(letters, chained))

    def test_the_doing_behind_turns_the_rest(self):
        numbers = Numbers(7)
        for doing in HELD:
            word = numbers.word(doing[0], 200)
            for at in (0, 1, 2, 17, 199, 200):
                told = does(doing, word[:at]) + does(behind(doing, word[:at]), word[at:])
                self.assertEqual(told, does(doing, word))

    def test_behind_the_empty_word(self):
        for doing in HELD:
            self.assertEqual(behind(doing, ()), doing)

    def test_states_are_numbered_anew(self):
        self.assertEqual(behind(chain(3, 16), (1, 2, 0)), chain(3, 13))
        self.assertEqual(behind(chain(3, 16), (0,) * 200), IDLE[3])
        self.assertEqual(behind(doing_of(ALESHIN, (0,)), (1,)), doing_of(ALESHIN, (1,)))


class JoinedTest(unittest.TestCase):
    def test_told(self):
        refused = 0
        for letters in (2, 3, 4):
            doings = some_doings(letters, 26, letters)
            for one, other in product(doings, repeat=2):
                told = or_too_many(joined, one, other)
                self.assertEqual(told, reference.least(letters, reference.doing_chain(one, other)))
                refused += told is None
        self.assertGreater(refused, 50)

    def test_the_one_is_done_first(self):
        one, other = doing_of(THREE, (0,)), doing_of(THREE, (1,))
        self.assertEqual(does(joined(one, other), (0,)), (2,))
        self.assertEqual(does(joined(other, one), (0,)), (1,))
        for word in words_to(3, 4):
            self.assertEqual(does(joined(one, other), word), does(other, does(one, word)))

    def test_as_rows_joined(self):
        for one in rows_to(GRIGORCHUK, 2):
            for other in ((), (0,), (1, 0), (0, 2), (-4, 0, 3)):
                told = joined(doing_of(GRIGORCHUK, one), doing_of(GRIGORCHUK, other))
                self.assertEqual(told, doing_of(GRIGORCHUK, one + other))

    def test_idle_ones(self):
        for doing in HELD:
            self.assertEqual(joined(doing, IDLE[doing[0]]), doing)
            self.assertEqual(joined(IDLE[doing[0]], doing), doing)

    def test_too_many(self):
        self.assertIs(told_by(joined, doing_of(ALESHIN, (0, 1)), doing_of(ALESHIN, (2,))), TooMany)
        self.assertIs(told_by(joined, ROUND_AND_ROUND, ROUND_AND_ROUND), TooMany)
        self.assertEqual(joined(chain(2, 16), chain(2, 16)), IDLE[2])

    def test_joined_of_what_is_refused_on_the_way(self):
        # Only what is told counts here: three times SWELLING isn't held, four times it is.
        twice = joined(SWELLING, SWELLING)
        self.assertIs(told_by(joined, twice, SWELLING), TooMany)
        self.assertEqual(len(joined(twice, twice)[1]), 16)


class BackTest(unittest.TestCase):
    def test_told(self):
        for letters in (2, 3, 4):
            for doing in some_doings(letters, 60, 100 + letters):
                self.assertEqual(back(doing), reference.least(letters, reference.back_chain(doing)))

    def test_held_ones(self):
        for doing in HELD:
            self.assertEqual(len(back(doing)[1]), len(doing[1]))
            self.assertEqual(back(back(doing)), doing)
            self.assertEqual(joined(doing, back(doing)), IDLE[doing[0]])
            self.assertEqual(joined(back(doing), doing), IDLE[doing[0]])

    def test_states_are_numbered_anew(self):
        self.assertEqual(back(ADDING), (2, (((1, 0), (0, 1)), ((0, 1), (1, 1)))))
        doing = (2, (((1, 0), (1, 2)), ((1, 0), (1, 1)), ((0, 1), (2, 2))))
        self.assertEqual(back(doing), (2, (((1, 0), (1, 2)), ((0, 1), (1, 1)), ((1, 0), (2, 2)))))

    def test_as_a_row_back(self):
        for machine in (ADDING, GRIGORCHUK, GUPTA_SIDKI):
            for row in rows_to(machine, 2):
                self.assertEqual(back(doing_of(machine, row)), doing_of(machine, row_back(machine, row)))


class TimesTest(unittest.TestCase):
    def check(self, doing):
        """Each power by the one ahead of it; how many of them from 1 on are held."""
        held = 0
        for there in (True, False):
            chained = reference.doing_chain(doing) if there else reference.back_chain(doing)
            told = IDLE[doing[0]]
            for number in range(1, 65):
                if told is not None:
                    told = reference.least(doing[0], reference.doing_chain(told) + chained)
                    held += told is not None and there
                self.assertEqual(or_too_many(times, doing, number if there else -number), told)
        return held

    def test_told(self):
        self.assertEqual(self.check(ADDING), 64)
        self.assertEqual(self.check(SWELLING), 2)
        self.assertEqual(self.check(ROUND_AND_ROUND), 1)
        self.assertEqual(self.check(SMALL_BEHIND), 1)
        self.assertEqual(self.check(doing_of(ALESHIN, (0,))), 2)
        self.assertEqual(self.check(doing_of(GRIGORCHUK, (0, 1))), 64)
        self.assertEqual(self.check(doing_of(GUPTA_SIDKI, (0, 1))), 64)
        self.assertEqual(self.check(chain(4, 16)), 64)

    def test_some(self):
        for letters in (2, 3, 4):
            for doing in some_doings(letters, 12, 50 + letters):
                self.check(doing)

    def test_no_times(self):
        for doing in HELD:
            self.assertEqual(times(doing, 0), IDLE[doing[0]])
            self.assertEqual(times(doing, 1), doing)
            self.assertEqual(times(doing, -1), back(doing))

    def test_too_many_on_the_way_alone(self):
        self.assertEqual(len(times(SWELLING, 2)[1]), 10)
        for number in (3, 4, 64, -3, -4, -64):
            self.assertIs(told_by(times, SWELLING, number), TooMany)
        # Done four times it's idle.
        for number in (2, 3, 4, 5, 8, 64, -2, -3, -4, -5, -64):
            self.assertIs(told_by(times, ROUND_AND_ROUND, number), TooMany)

    def test_numbers_by_their_bits(self):
        for number in range(-64, 65):
            for start in (0, 1, 77, 255):
                bits = tuple([start >> at & 1 for at in range(12)])
                told = tuple([(start + number) >> at & 1 for at in range(12)])
                self.assertEqual(does(times(ADDING, number), bits), told)

    def test_limits(self):
        for number in (64, -64):
            self.assertIs(told_by(times, ADDING, number), None)
        for number in (65, -65):
            self.assertIs(told_by(times, ADDING, number), NoNumber)


class FirstUnlikeTest(unittest.TestCase):
    def test_by_hand(self):
        b, c = doing_of(GRIGORCHUK, (1,)), doing_of(GRIGORCHUK, (2,))
        for one, other, word in (
            (ADDING, ADDING, None),
            (ADDING, IDLE[2], (0,)),
            (ADDING, back(ADDING), (0, 0)),
            (ADDING, times(ADDING, 5), (0, 0, 0)),
            (chain(2, 16), IDLE[2], (0,) * 15),
            (chain(3, 16), chain(3, 15), (0,) * 14),
            (b, c, (1, 0, 0)),
            (doing_of(GUPTA_SIDKI, (1,)), IDLE[3], (0, 0)),
            (doing_of(GUPTA_SIDKI, (1,)), doing_of(GUPTA_SIDKI, (-2,)), (0, 0)),
            (doing_of(GRIGORCHUK, (3,)), IDLE[2], (1, 0, 0)),
            (doing_of(GRIGORCHUK, (0, 3, 0)), IDLE[2], (0, 0, 0)),
        ):
            with self.subTest(one=one, other=other):
                self.assertEqual(first_unlike(one, other), word)
                self.assertEqual(first_unlike(other, one), word)

    def test_the_least_letter(self):
        one = (3, (((0, 1, 2), (0, 0, 0)),))
        for turns, word in (((0, 2, 1), (1,)), ((1, 0, 2), (0,)), ((2, 1, 0), (0,)), ((0, 1, 2), None)):
            self.assertEqual(first_unlike(one, (3, ((turns, (0, 0, 0)),))), word)

    def test_all_words_in_order(self):
        for letters, length in ((2, 7), (3, 5), (4, 4)):
            doings = some_doings(letters, 24, 9 + letters)
            words = words_to(letters, length)
            images = [[does(doing, word) for word in words] for doing in doings]
            for one, other in product(range(len(doings)), repeat=2):
                told = first_unlike(doings[one], doings[other])
                unlike = [word for word, here, there in zip(words, images[one], images[other]) if here != there]
                if unlike:
                    self.assertEqual(told, unlike[0])
                else:
                    self.assertEqual(told is None, doings[one] == doings[other])
                    self.assertTrue(told is None or len(told) > length)

    def test_none_just_of_equal_ones(self):
        for one, other in product(HELD, repeat=2):
            if one[0] == other[0]:
                self.assertEqual(first_unlike(one, other) is None, one == other)

    def test_longer_than_the_states_of_either(self):
        # Along letters 0 the one comes round after 16 steps, the other after 15, each turning letters about at one.
        def ring(many):
            return (2, tuple([((1, 0) if at == many - 1 else (0, 1), ((at + 1) % many,) * 2) for at in range(many)]))
        word = first_unlike(ring(16), ring(15))
        self.assertEqual(word, (0,) * 15)
        self.assertEqual(first_unlike(ring(16), ring(8)), (0,) * 8)
        self.assertEqual(first_unlike(ring(7), ring(16)), (0,) * 7)


class RefusalTest(unittest.TestCase):
    def test_one_doing(self):
        for doing in NO_DOINGS + ODD_THINGS:
            for deed, more in ((does, ((0, 1),)), (behind, ((0, 1),)), (back, ()), (times, (2,))):
                self.assertIs(told_by(deed, doing, *more), NoDoing)
            for deed in (joined, first_unlike):
                self.assertIs(told_by(deed, doing, ADDING), NoDoing)
                self.assertIs(told_by(deed, ADDING, doing), NoDoing)
                self.assertIs(told_by(deed, doing, doing), NoDoing)

    def test_words(self):
        doings = ((ADDING, None), (chain(2, 17), NoDoing), (None, NoDoing))
        words = [(word, NoWord) for word in NO_WORDS] + [((0, 1), None), ((), None), ((0,) * 200, None)]
        for (doing, first), (word, then) in product(doings, words):
            for deed in (does, behind):
                self.assertIs(told_by(deed, doing, word), first or then)
        for deed in (does, behind):
            self.assertIs(told_by(deed, IDLE[3], (0, 2)), None)
            self.assertIs(told_by(deed, IDLE[3], (0, 3)), NoWord)
            self.assertIs(told_by(deed, IDLE[2], (0, 2)), NoWord)

    def test_numbers(self):
        doings = ((ADDING, None), (ROUND_AND_ROUND, None), (chain(2, 17), NoDoing), ([], NoDoing))
        numbers = [(number, NoNumber) for number in (65, -65, HUGE, -HUGE, True, False, None, "1", (), (1,), [1])]
        for (doing, first), (number, then) in product(doings, numbers + [(1, None), (0, None)]):
            self.assertIs(told_by(times, doing, number), first or then)

    def test_unlike_many_letters(self):
        for deed in (joined, first_unlike):
            for one, other in product((ADDING, IDLE[3], IDLE[4], ROUND_AND_ROUND), repeat=2):
                first = NoFit if one[0] != other[0] else None
                if deed == joined and one == other == ROUND_AND_ROUND:
                    first = TooMany
                self.assertIs(told_by(deed, one, other), first)

    def test_several_at_once(self):
        doings = ((ADDING, None), (IDLE[3], None), (chain(3, 17), NoDoing), (None, NoDoing), (ALESHIN, NoDoing))
        for (one, first), (other, then) in product(doings, repeat=2):
            told = first_refusal(first, then, NoFit if not first and not then and one[0] != other[0] else None)
            for deed in (joined, first_unlike):
                self.assertIs(told_by(deed, one, other), told)


class NothingChangesTest(unittest.TestCase):
    def test_what_is_handed_in_stays_as_it_is(self):
        for thing in ODD_THINGS + NO_DOINGS + NO_ROWS + NO_WORDS:
            before = deepcopy(thing)
            is_doing(thing)
            for deed in (idle, back):
                told_by(deed, thing)
            for deed in (doing_of, does, behind, joined, times, first_unlike):
                told_by(deed, thing, thing)
                told_by(deed, ADDING, thing)
            self.assertEqual(thing, before)
        handed_in = (deepcopy(THREE), (0, -1, 2), deepcopy(SMALL_BEHIND), (0, 2, 1))
        before = deepcopy(handed_in)
        machine, row, doing, word = handed_in
        for told in (doing_of(machine, row), does(doing, word), behind(doing, word), back(doing)):
            self.assertIs(type(told), tuple)
        self.assertIs(type(joined(doing, back(doing))), tuple)
        self.assertIs(type(first_unlike(doing, back(doing))), tuple)
        self.assertIs(type(times(doing, -1)), tuple)
        self.assertEqual(handed_in, before)

    def test_the_same_is_told_again(self):
        for _ in range(3):
            self.assertIs(told_by(times, SWELLING, 4), TooMany)
            self.assertEqual(len(times(SWELLING, 2)[1]), 10)
            self.assertEqual(doing_of(ADDING, (0, 0)), times(ADDING, 2))

    def test_told_doings_are_doings(self):
        numbers = Numbers(3)
        for letters in (2, 3, 4):
            for _ in range(40):
                machine = numbers.machine(letters, 3)
                doing = or_too_many(doing_of, machine, numbers.row(machine, 4))
                if doing is not None:
                    self.assertIs(is_doing(doing), True)
                    self.assertIs(is_doing(back(doing)), True)
                    self.assertIs(is_doing(behind(doing, numbers.word(letters, 5))), True)


if __name__ == "__main__":
    unittest.main()
