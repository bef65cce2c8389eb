import unittest
from copy import deepcopy
from itertools import product

from homerounds import doings, homes, lively, mirrors, orders
from homerounds.errors import (
    Full, NoLetter, NoMachine, NoMark, NoName, NoRow, NoState, NoWord, Standing, TooLong, TooMany,
)
from homerounds.house import House
from homerounds.machines import is_machine
from tests import reference
from tests.samples import (
    ADDING, ALESHIN, BASILICA, FOUR, GRIGORCHUK, GUPTA_SIDKI, HUGE, NO_LETTERS, NO_MACHINES, NO_ROWS, NO_WORDS,
    ODD_THINGS, ONE_STATE, THREE, Numbers, nested, told_by,
)

NO_NAMES = tuple([thing for thing in ODD_THINGS if thing != "machine"]) + (
    "", "A", "Ab", "abcdefghi", "a" * 9, "a" * 200, "a b", " a", "a ", "a1", "1", "a_", "a-b", "a\n", "\n", "\u00e9",
    "\u00df", "\u03b1", "\uff41", "a\u0301", ("a",), ["a"], (), [], nested(8), b"a", "\u0131", "a.b", "{", "`", "z{",
)
NO_STATES = (None, True, False, "0", "", (), (0,), [0], [], -1, -2, 8, HUGE, -HUGE, nested(8), ADDING)
NO_MARKS = ODD_THINGS + (6, 7, -6, "1", (1,), [1], nested(8))
NAMES = "a b c d e f g h i j k l".split()


def refused(deed, *handed_in, **by_name):
    """(class of the refusal, its fields), None where nothing is refused."""
    try:
        deed(*handed_in, **by_name)
    except ValueError as e:
        return type(e), vars(e)
    return None


def no_name(name):
    return NoName, {"name": name}


def standing(name):
    return Standing, {"name": name}


FULL_OF_NAMES = (Full, {"most": 12})
FULL_OF_MARKS = (Full, {"most": 6})


def told_of(house):
    """What the house tells of itself."""
    return house.machine(), house.names(), house.marks(), [house.row(name) for name in house.names()]


def with_rows(machine, rows):
    house = House(machine)
    for name, row in rows.items():
        house.put(name, row)
    return house


def a_house():
    """A house of some rows and marks."""
    house = with_rows(GRIGORCHUK, {"a": (0,), "b": (1,), "ab": (0, 1), "none": (), "long": (0, 1) * 8})
    house.mark()
    house.put("d", (3, -1))
    house.mark()
    return house


class PutTest(unittest.TestCase):
    def test_by_hand(self):
        house = House(ADDING)
        self.assertEqual(told_of(house), (ADDING, [], [], []))
        self.assertIs(house.put("b", (0, -2)), None)
        self.assertIs(house.put("abcdefgh", (0,) * 16), None)
        self.assertIs(house.put("a", ()), None)
        self.assertEqual(told_of(house), (ADDING, ["a", "abcdefgh", "b"], [], [(), (0,) * 16, (0, -2)]))

    def test_names(self):
        for name in ("a", "z", "az", "abcdefgh", "zzzzzzzz", "mark", "aa"):
            house = House(ADDING)
            house.put(name, (0,))
            self.assertEqual(house.names(), [name])
        for name in NO_NAMES:
            house = a_house()
            before = told_of(house)
            for deed in (
                lambda: house.put(name, (0,)), lambda: house.put(name, None), lambda: house.join(name, "a", "b"),
                lambda: house.join(name, "x", None), lambda: house.turn_back(name, "a"),
                lambda: house.turn_back(name, None), lambda: house.take_out(name), lambda: house.row(name),
                lambda: house.join("new", name, "a"), lambda: house.join("new", "a", name),
                lambda: house.turn_back("new", name), lambda: house.doing(name), lambda: house.order(name),
                lambda: house.kind(name), lambda: house.home(name, (0,)), lambda: house.home(name, None),
                lambda: house.unlike(name, "a"), lambda: house.unlike("a", name), lambda: house.mirrored(name, "a"),
                lambda: house.mirrored("a", name),
            ):
                self.assertEqual(refused(deed), no_name(name))
            self.assertEqual(told_of(house), before)

    def test_the_name_handed_in_is_told(self):
        house = House(ADDING)
        for name in NO_NAMES:
            try:
                house.put(name, ())
            except NoName as e:
                self.assertIs(e.name, name)

    def test_each_sign_of_a_name(self):
        for at in range(256):
            is_name = "a" <= chr(at) <= "z"
            for name in (chr(at), "a" + chr(at), chr(at) + "a"):
                self.assertEqual(refused(House(ADDING).put, name, ()), None if is_name else no_name(name))

    def test_standing(self):
        house = a_house()
        before = told_of(house)
        for name in house.names():
            for row in ((0,), None, (99,)):
                self.assertEqual(refused(house.put, name, row), standing(name))
            for one, other in product(("a", "x", None), ("b", "y", [])):
                self.assertEqual(refused(house.join, name, one, other), standing(name))
            for one in ("a", "x", None):
                self.assertEqual(refused(house.turn_back, name, one), standing(name))
        self.assertEqual(told_of(house), before)

    def test_no_row(self):
        for row in NO_ROWS:
            house = House(ADDING)
            self.assertEqual(refused(house.put, "a", row)[0], NoRow)
            self.assertEqual(told_of(house), (ADDING, [], [], []))
        for machine in (ADDING, GRIGORCHUK, FOUR):
            many = len(machine[1])
            house = House(machine)
            self.assertEqual(refused(house.put, "a", (many,))[0], NoRow)
            self.assertEqual(refused(house.put, "a", (-1 - many,))[0], NoRow)
            self.assertIs(refused(house.put, "a", (many - 1, -many)), None)

    def test_twelve_names_and_one_more(self):
        house = House(ADDING)
        for many, name in enumerate(NAMES):
            self.assertEqual(len(house.names()), many)
            self.assertIs(refused(house.put, name, (0,) * many), None)
        before = told_of(house)
        self.assertEqual(refused(house.put, "new", (0,)), FULL_OF_NAMES)
        self.assertEqual(refused(house.join, "new", "a", "b"), FULL_OF_NAMES)
        self.assertEqual(refused(house.turn_back, "new", "c"), FULL_OF_NAMES)
        # What is told ahead of it.
        self.assertEqual(refused(house.put, "NEW", (0,)), no_name("NEW"))
        self.assertEqual(refused(house.put, "a", (0,)), standing("a"))
        self.assertEqual(refused(house.put, "new", (9,))[0], NoRow)
        self.assertEqual(refused(house.put, "new", None)[0], NoRow)
        self.assertEqual(refused(house.join, "new", "x", "b"), no_name("x"))
        self.assertEqual(refused(house.join, "new", "a", "y"), no_name("y"))
        self.assertEqual(refused(house.join, "new", "l", "k")[0], TooLong)
        self.assertEqual(refused(house.turn_back, "new", "x"), no_name("x"))
        self.assertEqual(told_of(house), before)
        house.take_out("e")
        self.assertIs(refused(house.join, "new", "a", "b"), None)
        self.assertEqual(refused(house.put, "e", (0,)), FULL_OF_NAMES)
        house.take_out("new")
        self.assertIs(refused(house.turn_back, "new", "c"), None)
        house.take_out("a")
        self.assertIs(refused(house.put, "a", (-1,)), None)
        self.assertEqual(len(house.names()), 12)


class JoinTest(unittest.TestCase):
    def test_by_hand(self):
        house = a_house()
        self.assertIs(house.join("x", "a", "b"), None)
        self.assertEqual(house.row("x"), (0, 1))
        house.join("y", "b", "a")
        self.assertEqual(house.row("y"), (1, 0))
        house.join("z", "ab", "ab")
        self.assertEqual(house.row("z"), (0, 1, 0, 1))
        house.join("u", "none", "none")
        self.assertEqual(house.row("u"), ())
        # It isn't made plain.
        house.put("back", (-1,))
        house.join("v", "a", "back")
        self.assertEqual(house.row("v"), (0, -1))
        house.take_out("u")
        house.join("w", "long", "none")
        self.assertEqual(house.row("w"), (0, 1) * 8)

    def test_of_sixteen_signs_and_of_more(self):
        for one, other in product(range(17), range(17)):
            house = with_rows(ADDING, {"a": (0,) * one, "b": (-2,) * other})
            before = told_of(house)
            told = refused(house.join, "c", "a", "b")
            if one + other > 16:
                self.assertEqual(told[0], TooLong)
                self.assertEqual(told_of(house), before)
            else:
                self.assertIs(told, None)
                self.assertEqual(house.row("c"), (0,) * one + (-2,) * other)

    def test_names_that_must_stand(self):
        house = a_house()
        before = told_of(house)
        for one, other, name in (
            ("x", "a", "x"), ("a", "y", "y"), ("x", "y", "x"), ("new", "a", "new"), ("a", "new", "new"),
            (None, "y", None), ("long", None, None), ([], [0], []), ("x", "long", "x"), (1, "a", 1), ("A", "b", "A"),
        ):
            self.assertEqual(refused(house.join, "new", one, other), no_name(name))
        self.assertEqual(refused(house.join, "new", "long", "a")[0], TooLong)
        self.assertEqual(refused(house.join, "new", "a", "long")[0], TooLong)
        self.assertEqual(told_of(house), before)


class TurnBackTest(unittest.TestCase):
    def test_by_hand(self):
        for row, told in (
            ((), ()), ((0,), (-1,)), ((-1,), (0,)), ((0, 1, -3), (2, -2, -1)), ((0, -1), ()),
            ((0, 1, -2, -1, 2), (-3,)),
            ((1, 0, -1, -2, 3, -4), ()), ((2, 2, -3), (-3,)), ((0,) * 16, (-1,) * 16),
        ):
            house = with_rows(GRIGORCHUK, {"one": row})
            self.assertIs(house.turn_back("other", "one"), None)
            self.assertEqual(house.row("other"), told)
            self.assertEqual(house.row("one"), row)
            self.assertEqual(house.doing("other"), doings.back(house.doing("one")))

    def test_refused(self):
        house = a_house()
        before = told_of(house)
        for one in ("x", "new", "A", "", None, 0, [], (), HUGE):
            self.assertEqual(refused(house.turn_back, "new", one), no_name(one))
        self.assertEqual(told_of(house), before)


class TakeOutTest(unittest.TestCase):
    def test_by_hand(self):
        house = with_rows(ADDING, {"a": (0,), "b": (1,)})
        self.assertIs(house.take_out("a"), None)
        self.assertEqual(house.names(), ["b"])
        self.assertEqual(refused(house.row, "a"), no_name("a"))
        self.assertEqual(refused(house.take_out, "a"), no_name("a"))
        house.put("a", (1,))
        self.assertEqual(house.row("a"), (1,))


class MachineTest(unittest.TestCase):
    def test_exchange(self):
        house = House(THREE)
        self.assertIs(house.exchange(1, 0, 2), None)
        self.assertEqual(house.machine(), (3, (THREE[1][0], ((1, 2, 0), (2, 1, 0)), THREE[1][2])))
        house.exchange(1, 2, 0)
        self.assertEqual(house.machine(), THREE)
        house.exchange(2, 1, 1)
        self.assertEqual(house.machine(), THREE)
        house.exchange(0, 1, 0)
        self.assertEqual(house.machine(), (3, (((2, 1, 0), (0, 1, 2)), THREE[1][1], THREE[1][2])))

    def test_lead(self):
        house = House(THREE)
        self.assertIs(house.lead(2, 0, next_state=2), None)
        self.assertEqual(house.machine(), (3, (THREE[1][0], THREE[1][1], ((2, 1, 0), (2, 1, 0)))))
        house.lead(0, 2, next_state=0)
        self.assertEqual(house.machine()[1][0], ((1, 2, 0), (0, 1, 0)))
        house.lead(0, 2, next_state=0)
        self.assertEqual(house.machine()[1][0], ((1, 2, 0), (0, 1, 0)))

    def test_each_state_letter_and_next(self):
        for machine in (ADDING, THREE, FOUR):
            letters, states = machine
            for state, one, other in product(range(len(states)), range(letters), range(letters)):
                house = House(machine)
                house.exchange(state, one, other)
                self.assertIs(is_machine(house.machine()), True)
                turns = list(states[state][0])
                turns[one], turns[other] = turns[other], turns[one]
                self.assertEqual(house.machine()[1][state], (tuple(turns), states[state][1]))
                self.assertEqual([at for at in range(len(states)) if house.machine()[1][at] != states[at]],
                                 [state] if one != other else [])
            for state, letter, following in product(range(len(states)), range(letters), range(len(states))):
                house = House(machine)
                house.lead(state, letter, next_state=following)
                self.assertIs(is_machine(house.machine()), True)
                nexts = list(states[state][1])
                nexts[letter] = following
                self.assertEqual(house.machine()[1][state], (states[state][0], tuple(nexts)))

    def test_refused(self):
        house = House(THREE)
        for state in NO_STATES + (3, 4):
            for letter, other in product((0, 3, None), (1, -1, [])):
                self.assertEqual(refused(house.exchange, state, letter, other)[0], NoState)
                self.assertEqual(refused(house.lead, state, letter, next_state=other)[0], NoState)
        for letter in NO_LETTERS + (3,):
            for other in (0, 3, None, -1):
                self.assertEqual(refused(house.exchange, 0, letter, other)[0], NoLetter)
                self.assertEqual(refused(house.lead, 0, letter, next_state=other)[0], NoLetter)
            self.assertEqual(refused(house.exchange, 2, 2, letter)[0], NoLetter)
        for state in NO_STATES + (3, 4):
            self.assertEqual(refused(house.lead, 2, 2, next_state=state)[0], NoState)
        self.assertEqual(told_of(house), (THREE, [], [], []))
        # There are more states than letters, and fewer.
        for machine in (GRIGORCHUK, ONE_STATE, FOUR):
            house = House(machine)
            letters, many = machine[0], len(machine[1])
            for state, letter in product(range(-2, 10), range(-2, 6)):
                told = None if 0 <= letter < letters else NoLetter
                told = told if 0 <= state < many else NoState
                for deed in (lambda: house.exchange(state, letter, 0), lambda: house.lead(state, letter, next_state=0)):
                    self.assertIs(told_by(deed), told)
                told = None if 0 <= letter < letters else NoLetter
                self.assertIs(told_by(lambda: house.exchange(0, 0, letter)), told)
                told = None if 0 <= state < many else NoState
                self.assertIs(told_by(lambda: house.lead(0, 0, next_state=state)), told)

    def test_next_state_is_handed_in_by_name(self):
        with self.assertRaises(TypeError):
            House(THREE).lead(0, 0, 0)

    def test_no_machine(self):
        for machine in NO_MACHINES + ODD_THINGS:
            self.assertIs(told_by(House, machine), NoMachine)


class MarkTest(unittest.TestCase):
    def test_by_hand(self):
        house = House(ADDING)
        self.assertEqual(house.marks(), [])
        self.assertEqual(house.mark(), 0)
        house.put("a", (0,))
        self.assertEqual(house.mark(), 1)
        house.exchange(0, 0, 1)
        house.put("b", (1,))
        self.assertEqual(house.mark(), 2)
        house.take_out("a")
        self.assertEqual(house.marks(), [0, 1, 2])
        self.assertIs(house.back(1), None)
        self.assertEqual(told_of(house), (ADDING, ["a"], [0, 1], [(0,)]))
        self.assertEqual(refused(house.back, 2), (NoMark, {"number": 2}))
        house.lead(0, 0, next_state=0)
        house.put("c", (1, 1))
        # The mark stands still, as it was made.
        house.back(1)
        self.assertEqual(told_of(house), (ADDING, ["a"], [0, 1], [(0,)]))
        house.back(0)
        self.assertEqual(told_of(house), (ADDING, [], [0], []))
        self.assertEqual(house.mark(), 1)
        house.put("d", ())
        house.back(1)
        self.assertEqual(told_of(house), (ADDING, [], [0, 1], []))

    def test_six_marks_and_one_more(self):
        house = a_house()
        for number in range(2, 6):
            self.assertEqual(house.mark(), number)
        before = told_of(house)
        for _ in range(3):
            self.assertEqual(refused(house.mark), FULL_OF_MARKS)
        self.assertEqual(told_of(house), before)
        self.assertEqual(house.marks(), list(range(6)))
        house.back(5)
        self.assertEqual(refused(house.mark), FULL_OF_MARKS)
        house.back(4)
        self.assertEqual(house.mark(), 5)
        house.back(0)
        self.assertEqual(house.marks(), [0])
        self.assertEqual([house.mark() for _ in range(5)], [1, 2, 3, 4, 5])

    def test_no_mark(self):
        for marks in (0, 1, 2, 6):
            house = House(ADDING)
            for _ in range(marks):
                house.mark()
            house.put("a", (0,))
            before = told_of(house)
            for number in NO_MARKS + tuple(range(-3, 9)):
                if type(number) is int and 0 <= number < marks:
                    continue
                self.assertEqual(refused(house.back, number), (NoMark, {"number": number}))
                self.assertEqual(told_of(house), before)
            for number in (True, False, 10 ** 30, "0", None):
                try:
                    house.back(number)
                except NoMark as e:
                    self.assertIs(e.number, number)
        self.assertEqual(refused(House(ADDING).back, 0), (NoMark, {"number": 0}))

    def test_all_is_as_it_was(self):
        house = with_rows(THREE, {"a": (0, 1), "b": (2,)})
        house.mark()
        before = told_of(house)
        told = house.doing("a"), house.kind("b"), house.unlike("a", "b")
        house.exchange(1, 0, 1)
        house.lead(2, 2, next_state=1)
        house.take_out("a")
        house.put("a", (1,))
        house.join("c", "a", "b")
        house.back(0)
        self.assertEqual(told_of(house), before)
        self.assertEqual((house.doing("a"), house.kind("b"), house.unlike("a", "b")), told)
        # Once more, as what is done behind a mark doesn't reach into it.
        house.take_out("b")
        house.exchange(0, 1, 2)
        house.mark()
        house.back(0)
        self.assertEqual(told_of(house), before)


class TellingTest(unittest.TestCase):
    def test_names_and_marks_rise(self):
        house = House(ADDING)
        for name in ("zz", "b", "a", "ab", "z", "abc", "ba"):
            house.put(name, ())
        self.assertEqual(house.names(), ["a", "ab", "abc", "b", "ba", "z", "zz"])
        self.assertIs(type(house.names()), list)
        self.assertIs(type(house.marks()), list)
        self.assertIs(type(house.row("a")), tuple)

    def test_by_hand(self):
        house = a_house()
        self.assertEqual(house.doing("a"), doings.doing_of(GRIGORCHUK, (0,)))
        self.assertEqual(house.order("a")[:2], ("order", 2))
        self.assertEqual(house.order("ab")[:2], ("order", 16))
        self.assertEqual(house.home("ab", (0, 0)), reference.home(house.doing("ab"), (0, 0)))
        self.assertEqual(house.home("a", ()), 1)
        self.assertEqual(house.unlike("a", "b"), (0,))
        self.assertIs(house.unlike("a", "a"), None)
        self.assertIs(house.unlike("none", "none"), None)
        self.assertEqual(house.mirrored("a", "b"), ("parted", 1))
        self.assertEqual(house.mirrored("ab", "ab")[0], "mirrored")
        self.assertEqual(house.kind("a"), ("ends", 1))
        self.assertEqual(house.kind("none"), ("ends", 0))
        self.assertEqual(house.kind("b")[:2], ("power", 0))

    def test_by_the_machine_as_it_stands(self):
        house = with_rows(ADDING, {"one": (0,), "two": (1,)})
        self.assertEqual(house.order("one")[0], "none")
        house.exchange(0, 0, 1)
        self.assertEqual(house.order("one")[:2], ("order", 1))
        self.assertEqual(house.doing("one"), doings.idle(2))
        self.assertIs(house.unlike("one", "two"), None)
        house.exchange(1, 0, 1)
        self.assertEqual(house.home("two", (1, 0)), 2)
        self.assertEqual(house.unlike("one", "two"), (0,))

    def test_too_many(self):
        house = with_rows(ALESHIN, {"one": (0,), "more": (0, 1, 2, 0, 1, 2), "back": (-3, -2, -1, -3, -2, -1)})
        house.join("both", "more", "back")
        for name in ("more", "back", "both"):
            for deed in (
                lambda: house.doing(name), lambda: house.order(name), lambda: house.home(name, ()),
                lambda: house.home(name, (0, 1)), lambda: house.unlike(name, "one"), lambda: house.unlike("one", name),
                lambda: house.mirrored(name, "one"), lambda: house.mirrored("one", name), lambda: house.kind(name),
            ):
                self.assertIs(told_by(deed), TooMany)
            # NoName, then NoWord, then TooMany.
            for word in NO_WORDS:
                self.assertIs(told_by(house.home, name, word), NoWord)
                self.assertEqual(refused(house.home, "x", word), no_name("x"))
            self.assertEqual(refused(house.unlike, name, "x"), no_name("x"))
            self.assertEqual(refused(house.unlike, "x", name), no_name("x"))
            self.assertEqual(refused(house.mirrored, name, None), no_name(None))
            self.assertEqual(refused(house.mirrored, "x", "y"), no_name("x"))
            self.assertEqual(refused(house.unlike, [], "y"), no_name([]))
        # Held, but the returns aren't told.
        self.assertIs(told_by(house.order, "one"), told_by(orders.order, house.doing("one")))
        self.assertIs(told_by(house.row, "both"), None)

    def test_words(self):
        house = a_house()
        for word in NO_WORDS:
            for name in ("a", "none", "ab"):
                self.assertIs(told_by(house.home, name, word), NoWord)
        for letter in range(-2, 5):
            self.assertIs(told_by(house.home, "a", (0, letter)), None if 0 <= letter < 2 else NoWord)
        self.assertIs(told_by(house.home, "a", (1,) * 200), None)
        self.assertIs(told_by(house.home, "a", (1,) * 201), NoWord)


def or_refused(deed, *handed_in):
    """What is told, or the class of the refusal."""
    try:
        return deed(*handed_in)
    except ValueError as e:
        return type(e)


class Model:
    """What the house must be, by the words of it."""

    def __init__(self, machine):
        self.machine, self.rows, self.marked = machine, {}, []

    def new_name(self, name):
        if not (type(name) is str and 1 <= len(name) <= 8 and all("a" <= sign <= "z" for sign in name)):
            return no_name(name)
        return standing(name) if name in self.rows else None

    def old_name(self, name):
        return None if type(name) is str and name in self.rows else no_name(name)

    def is_row(self, row):
        many = len(self.machine[1])
        return type(row) is tuple and len(row) <= 16 and all(type(sign) is int and -many <= sign < many for sign in row)

    def is_below(self, thing, many):
        return type(thing) is int and 0 <= thing < many

    def keep(self, name, row, refusals):
        told = next((refusal for refusal in refusals if refusal is not None), None)
        if told is None and len(row) > 16:
            told = (TooLong, None)
        if told is None and len(self.rows) == 12:
            told = FULL_OF_NAMES
        if told is None:
            self.rows[name] = row
        return told

    def put(self, name, row):
        refusals = [self.new_name(name), None if self.is_row(row) else (NoRow, None)]
        return self.keep(name, row, refusals)

    def join(self, name, one, other):
        refusals = [self.new_name(name), self.old_name(one), self.old_name(other)]
        row = () if any(refusals) else self.rows[one] + self.rows[other]
        return self.keep(name, row, refusals)

    def turn_back(self, name, one):
        refusals = [self.new_name(name), self.old_name(one)]
        row = []
        for sign in () if any(refusals) else self.rows[one][::-1]:
            if row and row[-1] == sign:
                row.pop()
            else:
                row.append(-1 - sign)
        return self.keep(name, tuple(row), refusals)

    def take_out(self, name):
        if self.old_name(name):
            return self.old_name(name)
        del self.rows[name]

    def change(self, state, part, changed):
        states = [list(one) for one in self.machine[1]]
        states[state][part] = tuple(changed)
        self.machine = (self.machine[0], tuple([tuple(one) for one in states]))

    def exchange(self, state, one, other):
        if not self.is_below(state, len(self.machine[1])):
            return NoState, None
        if not (self.is_below(one, self.machine[0]) and self.is_below(other, self.machine[0])):
            return NoLetter, None
        turns = list(self.machine[1][state][0])
        turns[one], turns[other] = turns[other], turns[one]
        self.change(state, 0, turns)

    def lead(self, state, letter, next_state):
        if not self.is_below(state, len(self.machine[1])):
            return NoState, None
        if not self.is_below(letter, self.machine[0]):
            return NoLetter, None
        if not self.is_below(next_state, len(self.machine[1])):
            return NoState, None
        nexts = list(self.machine[1][state][1])
        nexts[letter] = next_state
        self.change(state, 1, nexts)

    def mark(self):
        if len(self.marked) == 6:
            return FULL_OF_MARKS
        self.marked.append((self.machine, dict(self.rows)))

    def back(self, number):
        if not self.is_below(number, len(self.marked)):
            return NoMark, {"number": number}
        self.machine, rows = self.marked[number]
        self.rows = dict(rows)
        del self.marked[number + 1:]

    def told(self):
        names = sorted(self.rows)
        return self.machine, names, list(range(len(self.marked))), [self.rows[name] for name in names]


class AnyDeedsTest(unittest.TestCase):
    def some_deed(self, numbers, model):
        """A deed and what is handed in, mostly right, sometimes not."""
        letters, many = model.machine[0], len(model.machine[1])
        wrong = (None, True, -1, 99, "", "A", [], ())

        def now_and_then(thing):
            return wrong[numbers.below(len(wrong))] if numbers.below(12) == 0 else thing

        def old():
            names = sorted(model.rows) + ["none"]
            return now_and_then(names[numbers.below(len(names))])

        def new():
            return now_and_then("abcdefghijklmnopqrst"[numbers.below(20)])

        deed = ("put", "put", "put", "put", "join", "join", "join", "turn_back", "turn_back", "take_out", "exchange",
                "lead", "mark", "mark", "back")[numbers.below(15)]
        if deed == "put":
            row = tuple([now_and_then(numbers.within(-many, many - 1)) for _ in range(numbers.below(10))])
            return deed, (new(), now_and_then(row))
        if deed == "join":
            return deed, (new(), old(), old())
        if deed == "turn_back":
            return deed, (new(), old())
        if deed == "take_out":
            return deed, (old(),)
        if deed == "exchange":
            return deed, (now_and_then(numbers.below(many)), now_and_then(numbers.below(letters)),
                          now_and_then(numbers.below(letters)))
        if deed == "lead":
            return deed, (now_and_then(numbers.below(many)), now_and_then(numbers.below(letters)),
                          now_and_then(numbers.below(many)))
        if deed == "mark":
            return deed, ()
        return deed, (now_and_then(numbers.within(2, 6)),)

    def do(self, house, model, deed, handed_in):
        many = len(model.marked)
        expected = getattr(model, deed)(*handed_in)
        told = None
        try:
            if deed == "lead":
                done = house.lead(*handed_in[:2], next_state=handed_in[2])
            else:
                done = getattr(house, deed)(*handed_in)
            self.assertEqual(done, many if deed == "mark" else None)
        except ValueError as e:
            told = type(e), vars(e)
        if expected is not None and expected[1] is None:
            self.assertEqual(told[0], expected[0])
        else:
            self.assertEqual(told, expected)
        self.assertEqual(told_of(house), model.told())
        return deed, None if told is None else told[0]

    def check_told(self, house):
        """What is told of the names' rows, by the functions, and by a fresh house."""
        machine = house.machine()
        rows = {name: house.row(name) for name in house.names()}
        fresh = with_rows(machine, rows)
        word = (1, 0, 1, 0)
        for name, row in rows.items():
            doing = or_refused(doings.doing_of, machine, row)
            self.assertEqual(or_refused(house.doing, name), doing)
            self.assertEqual(or_refused(fresh.doing, name), doing)
            for deed, function, handed_in in (
                ("order", orders.order, ()), ("kind", lively.kind, ()), ("home", homes.home, (word,)),
            ):
                expected = TooMany if doing is TooMany else or_refused(function, doing, *handed_in)
                self.assertEqual(or_refused(getattr(house, deed), name, *handed_in), expected)
                self.assertEqual(or_refused(getattr(fresh, deed), name, *handed_in), expected)
        for one, other in list(product(rows, rows))[::5]:
            both = [or_refused(doings.doing_of, machine, rows[name]) for name in (one, other)]
            for deed, function in (("unlike", doings.first_unlike), ("mirrored", mirrors.mirrored)):
                expected = TooMany if TooMany in both else or_refused(function, *both)
                self.assertEqual(or_refused(getattr(house, deed), one, other), expected)
                self.assertEqual(or_refused(getattr(fresh, deed), one, other), expected)

    def test_any_deeds(self):
        numbers = Numbers(801)
        seen = {}
        for machine in (ADDING, ONE_STATE, THREE, GRIGORCHUK, GUPTA_SIDKI, BASILICA, ALESHIN, FOUR) * 3:
            house, model = House(machine), Model(machine)
            for many in range(200):
                key = self.do(house, model, *self.some_deed(numbers, model))
                seen[key] = seen.get(key, 0) + 1
                if many % 40 == 39 and len(model.rows) > 3:
                    self.check_told(house)
        for key in (
            ("put", None), ("put", NoName), ("put", Standing), ("put", NoRow), ("put", Full), ("join", None),
            ("join", NoName), ("join", TooLong), ("join", Full), ("turn_back", None), ("turn_back", Full),
            ("take_out", None), ("take_out", NoName), ("exchange", None), ("exchange", NoState), ("exchange", NoLetter),
            ("lead", None), ("lead", NoState), ("lead", NoLetter), ("mark", None), ("mark", Full), ("back", None),
            ("back", NoMark),
        ):
            self.assertIn(key, seen)


class NothingChangesTest(unittest.TestCase):
    def test_what_is_handed_in_stays_as_it_is(self):
        machine = deepcopy(THREE)
        house = House(machine)
        row = (0, 1, -1)
        house.put("a", row)
        ahead = house.machine()
        house.exchange(0, 0, 1)
        house.lead(1, 1, next_state=2)
        self.assertEqual(machine, THREE)
        self.assertEqual(ahead, THREE)
        self.assertNotEqual(house.machine(), THREE)
        house.turn_back("b", "a")
        self.assertEqual(row, (0, 1, -1))
        for thing in NO_NAMES + NO_ROWS + NO_MARKS:
            before = deepcopy(thing)
            for deed in (
                lambda: House(thing), lambda: house.put(thing, thing), lambda: house.put("x", thing),
                lambda: house.join("y", thing, thing), lambda: house.back(thing), lambda: house.take_out(thing),
                lambda: house.exchange(thing, thing, thing), lambda: house.lead(0, 0, next_state=thing),
                lambda: house.home("a", thing),
            ):
                told_by(deed)
            self.assertEqual(thing, before)

    def test_told_lists_are_the_askers_own(self):
        house = a_house()
        for deed in (house.names, house.marks):
            told = deed()
            before = list(told)
            told.reverse()
            told.append("changed")
            self.assertEqual(deed(), before)
            told.clear()
            self.assertEqual(deed(), before)
        before = told_of(house)
        for deed, handed_in, part in (
            (house.order, ("ab",), 2), (house.order, ("ab",), 3), (house.kind, ("b",), 2),
            (house.mirrored, ("ab", "ab"), 1),
        ):
            told = deed(*handed_in)
            kept = deepcopy(told)
            told[part].append("changed")
            self.assertEqual(deed(*handed_in), kept)
        self.assertEqual(told_of(house), before)

    def test_houses_stand_for_themselves(self):
        house, other = House(ADDING), House(ADDING)
        house.put("a", (0,))
        house.exchange(0, 0, 1)
        house.mark()
        self.assertEqual(told_of(other), (ADDING, [], [], []))


if __name__ == "__main__":
    unittest.main()
