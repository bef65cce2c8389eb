import unittest
from copy import deepcopy

from homerounds.doings import back, doing_of, idle, times
from homerounds.errors import NoDoing, TooMany
from homerounds.levels import rounds
from homerounds.orders import order
from homerounds.returns import return_at, return_behind, returns, round_of
from tests import reference
from tests.samples import (
    ADDING, ALESHIN, GRIGORCHUK, GUPTA_SIDKI, NO_DOINGS, ODD_THINGS, ONE_STATE, ROUND_AND_ROUND, SEVENTEEN_RETURNS,
    SIXTEEN_RETURNS, SMALL_BEHIND, SWELLING, Numbers, chain, or_too_many, rows_to, small_machines, some_doings,
    told_by,
)


def is_word(letters, thing):
    return type(thing) is tuple and len(thing) <= 200 and all([
        type(letter) is int and 0 <= letter < letters for letter in thing
    ])


class OrderCase(unittest.TestCase):
    def check_order(self, doing, told):
        """Each clause of what is told: then this is the order, and there are no two words that bar it."""
        word, many, listed, words = told
        self.assertEqual((word, type(many), type(listed), type(words)), ("order", int, list, list))
        self.assertEqual([type(one) for one in listed], [tuple] * len(listed))
        self.assertEqual([one for one, _ in listed], returns(doing))
        orders = {one: number for one, number in listed}
        self.assertEqual(orders[doing], many)
        for one, number in listed:
            # Done so often nothing is turned: the list is closed.
            for letter in range(doing[0]):
                home = len(round_of(one, letter))
                self.assertEqual(number % (home * orders[return_at(one, letter)]), 0)
        for one in words:
            self.assertTrue(is_word(doing[0], one))
        # And not less often.
        self.assertEqual(reference.common([reference.home(doing, one) for one in words]), many)

    def check_none(self, doing, told):
        """Both clauses of what is told: then there is no order."""
        word, lead, ring = told
        self.assertEqual(word, "none")
        self.assertTrue(is_word(doing[0], lead) and is_word(doing[0], ring))
        self.assertGreater(len(ring), 0)
        self.assertEqual(return_behind(doing, lead + ring), return_behind(doing, lead))
        lengths, one = [], return_behind(doing, lead)
        for letter in ring:
            lengths.append(len(round_of(one, letter)))
            one = return_at(one, letter)
        self.assertGreater(max(lengths), 1)

    def check(self, doing):
        """What is told, with its list and words or its two words; the order, or None where there is none."""
        told = order(doing)
        self.assertIs(type(told), tuple)
        if told[0] == "order":
            self.check_order(doing, told)
            for one, number in told[2]:
                self.assertEqual(order(one)[:2], ("order", number))
            return told[1]
        self.check_none(doing, told)
        return None


class KnownOrdersTest(OrderCase):
    def test_by_hand(self):
        for doing, many in (
            (idle(2), 1), (idle(3), 1), (idle(4), 1), (ONE_STATE, 2), (ADDING, None), (back(ADDING), None),
            (chain(2, 16), 2), (chain(4, 2), 2), (SIXTEEN_RETURNS[0], 32), (SIXTEEN_RETURNS[1], 108),
            ((3, (((1, 2, 0), (1, 1, 1)), ((0, 1, 2), (1, 1, 1)))), 3), ((4, (((1, 2, 3, 0), (0, 0, 0, 0)),)), 4),
            ((4, (((1, 2, 3, 0), (0, 1, 1, 1)), ((0, 1, 2, 3), (1, 1, 1, 1)))), None),
            ((4, (((1, 0, 3, 2), (0, 0, 0, 0)),)), 2), ((4, (((0, 2, 3, 1), (0, 0, 0, 0)),)), 3),
            ((3, (((1, 2, 0), (0, 0, 0)),)), 3),
        ):
            with self.subTest(doing=doing):
                self.assertEqual(self.check(doing), many)

    def test_grigorchuk(self):
        for row, many in (
            ((), 1), ((0,), 2), ((1,), 2), ((2,), 2), ((3,), 2), ((0, 1), 16), ((1, 0), 16), ((0, 2), 8), ((0, 3), 4),
            ((1, 2, 3), 1), ((1, 2), 2), ((0, 1, 0), 2), ((0, 1, 0, 2), 8), ((0, 1, 0, 1), 8), ((0, -2), 16),
        ):
            with self.subTest(row=row):
                self.assertEqual(self.check(doing_of(GRIGORCHUK, row)), many)

    def test_gupta_sidki(self):
        for row, many in (((0,), 3), ((1,), 3), ((-1,), 3), ((0, 1), 9), ((1, 0), 9), ((0, -2), 9), ((0, 1, -1), 3)):
            with self.subTest(row=row):
                self.assertEqual(self.check(doing_of(GUPTA_SIDKI, row)), many)

    def test_both_primes(self):
        # Behind the round of letters 0 and 1 nothing is turned, behind 2 letters go round by three.
        doing = (3, (((1, 0, 2), (1, 1, 2)), ((0, 1, 2), (1, 1, 1)), ((1, 2, 0), (1, 1, 1))))
        told = order(doing)
        self.assertEqual(told[:2], ("order", 6))
        turning = (3, (((1, 2, 0), (1, 1, 1)), ((0, 1, 2), (1, 1, 1))))
        self.assertEqual(told[2], [(doing, 6), (idle(3), 1), (turning, 3)])
        self.assertEqual(self.check(doing), 6)
        # Four letters, of which one comes home after one time and three after three.
        doing = (4, (((0, 2, 3, 1), (1, 2, 2, 2)), ((1, 2, 3, 0), (2, 2, 2, 2)), ((0, 1, 2, 3), (2, 2, 2, 2))))
        self.assertEqual(self.check(doing), 12)

    def test_an_order_deep_down(self):
        self.assertEqual(order(chain(2, 16))[2], [(chain(2, many), 2) for many in range(16, 1, -1)] + [(idle(2), 1)])
        self.assertEqual(order(idle(4)), ("order", 1, [(idle(4), 1)], order(idle(4))[3]))

    def test_no_order_but_not_at_once(self):
        # Behind letter 1 and then 0 a number is told to which one is added; letter 0 leads nowhere.
        doing = (2, (((0, 1), (1, 2)), ((0, 1), (1, 1)), ((0, 1), (3, 1)), ((1, 0), (1, 3))))
        told = order(doing)
        self.assertEqual(self.check(doing), None)
        self.assertEqual(told[1][:2], (1, 0))
        # The round that is longer than 1 isn't the first one of the ring.
        doing = (2, (((0, 1), (1, 2)), ((1, 0), (0, 2)), ((0, 1), (2, 2))))
        self.assertEqual(self.check(doing), None)
        self.assertEqual(len(order(doing)[2]) % 2, 0)

    def test_two_of_order_two_and_no_order(self):
        one, other = (0,), (2,)
        machine = (2, (((1, 0), (1, 1)), ((0, 1), (1, 1)), ((0, 1), (0, 2))))
        self.assertEqual(self.check(doing_of(machine, one)), 2)
        self.assertEqual(self.check(doing_of(machine, other)), 2)
        self.assertIs(self.check(doing_of(machine, one + other)), None)
        self.assertIs(self.check(doing_of(machine, other + one)), None)

    def test_lamps(self):
        self.assertIs(told_by(order, (2, (((1, 0), (0, 1)), ((0, 1), (0, 1))))), TooMany)

    def test_aleshin(self):
        self.assertIs(told_by(order, doing_of(ALESHIN, (0,))), TooMany)
        self.assertIs(told_by(order, doing_of(ALESHIN, (0, 1))), TooMany)


class AllOrdersTest(OrderCase):
    def test_every_small_machine(self):
        seen = {}
        for machine in small_machines():
            for row in rows_to(machine, 2):
                doing = or_too_many(doing_of, machine, row)
                if or_too_many(returns, doing) is not None:
                    seen[self.check(doing)] = True
        self.assertIn(None, seen)
        self.assertIn(2, seen)

    def test_some(self):
        seen, refused = {}, 0
        for letters in (2, 3, 4):
            for doing in some_doings(letters, 300, 23 * letters):
                if reference.returns(doing) is None:
                    self.assertIs(told_by(order, doing), TooMany)
                    refused += 1
                else:
                    seen[self.check(doing)] = True
        self.assertGreater(refused, 20)
        self.assertGreater(len(seen), 6)
        self.assertIn(None, seen)

    def test_products_of_known_machines(self):
        for machine in (GRIGORCHUK, GUPTA_SIDKI, ADDING):
            numbers = Numbers(90)
            for _ in range(60):
                doing = or_too_many(doing_of, machine, numbers.row(machine, 5))
                if doing is not None and or_too_many(returns, doing) is not None:
                    many = self.check(doing)
                    if machine != ADDING:
                        # All are of finite order, a power of the number of letters.
                        while many % machine[0] == 0:
                            many //= machine[0]
                        self.assertEqual(many, 1)
                    else:
                        self.assertEqual(many, 1 if doing == idle(2) else None)

    def test_the_least_number_of_times(self):
        for letters in (2, 3, 4):
            for doing in some_doings(letters, 60, 41 * letters):
                told = or_too_many(order, doing)
                if told is None:
                    continue
                at = [number for number in range(1, 65) if or_too_many(times, doing, number) == idle(letters)]
                if told[0] == "none":
                    self.assertEqual(at, [])
                elif told[1] <= 64 and or_too_many(times, doing, told[1]) is not None:
                    self.assertEqual(at[0], told[1])

    def test_homes_of_all_words_of_a_length(self):
        for doing in SIXTEEN_RETURNS + (doing_of(GRIGORCHUK, (0, 1)), doing_of(GUPTA_SIDKI, (0, 1)), chain(2, 9)):
            length = 8 if doing[0] == 2 else 5
            homes = [len(one) for one in rounds(doing, length)]
            self.assertEqual(order(doing)[1] % reference.common(homes), 0)

    def test_back_has_the_same_order(self):
        for letters in (2, 3, 4):
            for doing in some_doings(letters, 40, 3 * letters):
                one, other = or_too_many(order, doing), or_too_many(order, back(doing))
                if one is not None and other is not None:
                    self.assertEqual(one[0], other[0])
                    self.assertTrue(one[0] == "none" or one[1] == other[1])


class RefusalTest(unittest.TestCase):
    def test_no_doing(self):
        for doing in NO_DOINGS + ODD_THINGS:
            self.assertIs(told_by(order, doing), NoDoing)

    def test_too_many_as_the_returns(self):
        for doing in SEVENTEEN_RETURNS + (SMALL_BEHIND, ROUND_AND_ROUND):
            self.assertIs(told_by(order, doing), TooMany)
        for doing in SIXTEEN_RETURNS + (chain(2, 16), chain(3, 16), chain(4, 16)):
            self.assertIs(told_by(order, doing), None)

    def test_too_many_though_words_bar_it(self):
        # Letter 0 leads to where one is added, and letter 1 to too many returns.
        states = (((0, 1), (1, 3)), ((1, 0), (2, 1)), ((0, 1), (2, 2))) + tuple([
            (turns, tuple([number + 3 for number in nexts])) for turns, nexts in SEVENTEEN_RETURNS[0][1]
        ])
        doing = reference.least(2, reference.doing_chain((2, states)))
        self.assertIs(told_by(order, doing), TooMany)


class NothingChangesTest(unittest.TestCase):
    def test_what_is_handed_in_stays_as_it_is(self):
        for thing in ODD_THINGS + NO_DOINGS + (SWELLING, ADDING) + SIXTEEN_RETURNS:
            before = deepcopy(thing)
            told_by(order, thing)
            self.assertEqual(thing, before)

    def test_told_lists_are_new_ones(self):
        for doing in SIXTEEN_RETURNS + (idle(2), doing_of(GRIGORCHUK, (0, 1))):
            told = order(doing)
            before = deepcopy(told)
            told[2].reverse()
            told[2].append("changed")
            told[3].clear()
            self.assertEqual(order(doing), before)
            self.assertEqual(order(deepcopy(doing)), before)
            order(doing)[3].append(None)
            self.assertEqual(order(doing), before)
        self.assertEqual(order(ADDING), order(deepcopy(ADDING)))


if __name__ == "__main__":
    unittest.main()
