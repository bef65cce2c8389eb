import unittest
from copy import deepcopy
from itertools import product

from homerounds.cores import core, depth
from homerounds.doings import back, behind, doing_of, idle, is_doing, joined
from homerounds.errors import NoMachine, NoRow, TooMany
from tests import reference
from tests.samples import (
    ADDING, ALESHIN, BASILICA, CORES_NOT_GROWN, CORES_OF_SEVENTEEN, CORES_OF_SIXTEEN, FOUR, GRIGORCHUK, GUPTA_SIDKI,
    NO_MACHINES, NO_ROWS, ODD_THINGS, ONE_STATE, THREE, Numbers, first_refusal, or_too_many, rows_to, small_machines,
    some_machines, told_by, words_to,
)

# Letters are turned round and round, all alike: the second doing of the core in its order is no state's.
TURNING = (4, (((3, 2, 0, 1), (0, 0, 0, 0)),))
# State 0 is once ahead of the others and never again.
LEADING = (2, (((0, 1), (1, 2)), ((1, 0), (3, 1)), ((1, 0), (3, 3)), ((0, 1), (3, 3))))
# Of few doings is the core, and yet the first five signs of a row needn't be held.
UNHELD = (4, (
    ((1, 0, 3, 2), (5, 2, 6, 0)), ((1, 0, 2, 3), (6, 5, 6, 3)), ((2, 0, 1, 3), (6, 6, 6, 6)),
    ((3, 1, 2, 0), (6, 6, 6, 6)), ((0, 2, 3, 1), (2, 6, 0, 6)), ((1, 2, 3, 0), (6, 4, 0, 6)),
    ((0, 1, 2, 3), (6, 6, 6, 6)),
))
UNHELD_ROW = (2, -5, -1, 1, 0)
KNOWN = (ADDING, ONE_STATE, UNHELD, GRIGORCHUK, GUPTA_SIDKI, BASILICA, TURNING, LEADING) + CORES_OF_SIXTEEN
SOME = some_machines(120, 700) + [machine for machine in small_machines()[::2]]


def as_list(told):
    return None if told is None else list(told)


class CoreTest(unittest.TestCase):
    def test_by_hand(self):
        adds_one = doing_of(ADDING, (0,))
        flips = doing_of(ONE_STATE, (0,))
        self.assertEqual(core(ADDING), sorted([idle(2), adds_one, back(adds_one)]))
        self.assertEqual(core(ONE_STATE), [idle(2), flips])
        self.assertEqual(core((3, (((0, 1, 2), (0, 0, 0)),))), [idle(3)])
        self.assertEqual(core(GRIGORCHUK), sorted([doing_of(GRIGORCHUK, (state,)) for state in range(5)]))
        # Letters turned once: of this nothing stands behind long words.
        self.assertEqual(core((2, (((1, 0), (1, 1)), ((0, 1), (1, 1))))), [idle(2)])
        turning = doing_of(TURNING, (0,))
        self.assertEqual(core(TURNING), sorted([
            idle(4), turning, joined(turning, turning), back(turning),
        ]))

    def test_of_basilica(self):
        a, b = doing_of(BASILICA, (0,)), doing_of(BASILICA, (1,))
        told = core(BASILICA)
        self.assertEqual(len(told), 7)
        self.assertEqual(told, sorted([
            idle(2), a, b, back(a), back(b), joined(back(a), b), joined(back(b), a),
        ]))

    def test_to_the_sign(self):
        for machine in KNOWN + tuple(SOME) + CORES_OF_SEVENTEEN + CORES_NOT_GROWN + (ALESHIN, THREE, FOUR):
            self.assertEqual(or_too_many(core, machine), as_list(reference.core(machine)))

    def test_sizes(self):
        sizes = {}
        for machine in SOME:
            told = or_too_many(core, machine)
            sizes[None if told is None else len(told)] = True
        self.assertGreater(len(sizes), 8)
        self.assertIn(None, sizes)

    def test_rising_and_each_once(self):
        for machine in KNOWN:
            told = core(machine)
            self.assertIs(type(told), list)
            self.assertEqual(told, sorted(told))
            self.assertEqual(len(set(told)), len(told))
            self.assertIn(idle(machine[0]), told)
            for one in told:
                self.assertIs(is_doing(one), True)
                self.assertIn(back(one), told)
                for letter in range(machine[0]):
                    self.assertIn(behind(one, (letter,)), told)

    def test_all_rows_come_into_it(self):
        for machine in KNOWN + tuple(SOME[:40]):
            told = or_too_many(core, machine)
            if told is None:
                continue
            met = {idle(machine[0])}
            for row in rows_to(machine, 2):
                doing = or_too_many(doing_of, machine, row)
                if doing is not None:
                    lasting = reference.lasting(doing)
                    for one in lasting:
                        self.assertIn(one, told)
                    met |= set(lasting)
            # What rows of two signs come to is in it, and all of it is grown from this.
            self.assertLessEqual(met, set(told))

    def test_what_is_ahead_of_all_is_not_in_it(self):
        told = core(LEADING)
        self.assertNotIn(doing_of(LEADING, (0,)), told)
        self.assertIn(doing_of(LEADING, (1,)), told)
        self.assertNotIn(doing_of(LEADING, (2,)), told)

    def test_just_sixteen_and_one_more(self):
        for machine in CORES_OF_SIXTEEN:
            self.assertEqual(len(core(machine)), 16)
        for machine in CORES_OF_SEVENTEEN:
            self.assertIs(told_by(core, machine), TooMany)

    def test_too_many_where_one_done_and_then_a_states_is_not_held(self):
        for machine in CORES_NOT_GROWN:
            self.assertIs(told_by(core, machine), TooMany)

    def test_too_many(self):
        for machine in (ALESHIN, THREE, FOUR):
            self.assertIs(told_by(core, machine), TooMany)


class DepthTest(unittest.TestCase):
    def check(self, machine, row):
        inside, doing = reference.core(machine), reference.row_doing(machine, row)
        if inside is None or doing is None:
            self.assertIs(told_by(depth, machine, row), TooMany)
            return None
        told = depth(machine, row)
        self.assertIs(type(told), int)
        self.assertEqual(told, reference.depth(doing, inside))
        return told

    def test_by_hand(self):
        for machine, row, told in (
            (ADDING, (), 0), (ADDING, (0,), 0), (ADDING, (1,), 0), (ADDING, (0, 0), 1), (ADDING, (0, -1), 0),
            (ADDING, (0,) * 4, 2), (ADDING, (0,) * 16, 4), (ADDING, (-1,) * 16, 4), (ADDING, (0, 0, 0), 2),
            (GRIGORCHUK, (0,), 0), (GRIGORCHUK, (0, 1), 1), (LEADING, (0,), 2), (LEADING, (2,), 1), (LEADING, (1,), 0),
            ((2, (((1, 0), (1, 1)), ((0, 1), (1, 1)))), (0,), 1), (TURNING, (0,) * 7, 0), (ONE_STATE, (0,) * 16, 0),
        ):
            with self.subTest(machine=machine, row=row):
                self.assertEqual(depth(machine, row), told)
                self.check(machine, row)

    def test_by_words(self):
        for machine, length in ((ADDING, 3), (GRIGORCHUK, 2), (BASILICA, 2), (LEADING, 2), (CORES_OF_SIXTEEN[1], 1)):
            told_core = core(machine)
            for row in rows_to(machine, length):
                told, doing = depth(machine, row), doing_of(machine, row)
                for many in range(told + 2):
                    all_in = all(
                        behind(doing, word) in told_core for word in product(range(machine[0]), repeat=many)
                    )
                    self.assertEqual(all_in, many >= told)

    def test_many_rows(self):
        numbers = Numbers(71)
        seen = {}
        for machine in KNOWN + tuple(SOME):
            for _ in range(8):
                told = self.check(machine, numbers.row(machine, 6))
                seen[told] = seen.get(told, 0) + 1
        self.assertGreater(len(seen), 4)
        self.assertGreater(seen[None], 50)

    def test_too_many_as_the_core_then_as_the_rows_doing(self):
        for machine in CORES_OF_SEVENTEEN + CORES_NOT_GROWN + (ALESHIN, THREE):
            for row in ((), (0,), (-1, 0)):
                self.assertIs(told_by(depth, machine, row), TooMany)
        for machine in KNOWN:
            self.assertIs(told_by(depth, machine, ()), None)
            self.assertEqual(depth(machine, ()), 0)
        # The core is told, and the row's doing isn't held, or that of one of its beginnings.
        for row in (UNHELD_ROW, UNHELD_ROW + tuple([-1 - sign for sign in UNHELD_ROW[::-1]])):
            self.assertIs(told_by(depth, UNHELD, row), TooMany)
            self.assertIs(told_by(depth, UNHELD, row[:4]), None)
        found = 0
        numbers = Numbers(72)
        for machine in CORES_OF_SIXTEEN[1:]:
            many = len(machine[1])
            for _ in range(60):
                row = tuple([numbers.within(-many, many - 1) for _ in range(16)])
                if reference.row_doing(machine, row) is None:
                    found += 1
                    self.assertIs(told_by(depth, machine, row), TooMany)
        self.assertGreater(found, 5)


class RefusalTest(unittest.TestCase):
    def test_no_machine(self):
        for machine in NO_MACHINES + ODD_THINGS:
            self.assertIs(told_by(core, machine), NoMachine)
            for row in ((), (0,), None, (99,)):
                self.assertIs(told_by(depth, machine, row), NoMachine)

    def test_no_row(self):
        for row in NO_ROWS:
            self.assertIs(told_by(depth, ADDING, row), NoRow)
        # Ahead of what the core is refused for.
        for machine in CORES_OF_SEVENTEEN + CORES_NOT_GROWN + (ALESHIN,):
            many = len(machine[1])
            for row in ((many,), (-1 - many,), (0, many), (0,) * 17, None, [0], (True,)):
                self.assertIs(told_by(depth, machine, row), NoRow)
            for row in ((many - 1,), (-many,), (0,) * 16):
                self.assertIs(told_by(depth, machine, row), TooMany)

    def test_several_at_once(self):
        for machine, row in product((ADDING, None, (2, ()), ALESHIN), ((0,), (5,), None)):
            refused = first_refusal(
                None if machine in (ADDING, ALESHIN) else NoMachine, None if row == (0,) else NoRow,
                TooMany if machine == ALESHIN else None,
            )
            self.assertIs(told_by(depth, machine, row), refused)


class NothingChangesTest(unittest.TestCase):
    def test_what_is_handed_in_stays_as_it_is(self):
        for thing in ODD_THINGS + NO_MACHINES + NO_ROWS + KNOWN:
            before = deepcopy(thing)
            told_by(core, thing)
            told_by(depth, thing, thing)
            told_by(depth, ADDING, thing)
            self.assertEqual(thing, before)

    def test_told_lists_are_new_ones(self):
        for machine in KNOWN:
            told = core(machine)
            before = list(told)
            told.reverse()
            told.append("changed")
            self.assertEqual(core(machine), before)
            self.assertEqual(core(deepcopy(machine)), before)
            told.clear()
            self.assertEqual(core(machine), before)
            self.assertEqual(depth(machine, (0, 0)), depth(deepcopy(machine), (0, 0)))


if __name__ == "__main__":
    unittest.main()
