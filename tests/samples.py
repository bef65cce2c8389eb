"""Machines and things that several tests take, and small helpers of theirs."""

from itertools import product

from homerounds.errors import TooMany
from tests import reference

# State 0 adds one to a number told by its bits, the least bit first; state 1 turns nothing.
ADDING = (2, (((1, 0), (1, 0)), ((0, 1), (1, 1))))

THREE = (3, (
    ((1, 2, 0), (0, 1, 2)),
    ((0, 2, 1), (2, 1, 0)),
    ((2, 1, 0), (1, 1, 0)),
))

FOUR = (4, tuple([
    (((state + 1) % 4, (state + 2) % 4, (state + 3) % 4, state % 4),
     ((state + 1) % 8, 7 - state, state, 3))
    for state in range(8)
]))

ONE_STATE = (2, (((1, 0), (0, 0)),))

# Of Grigorchuk: a, b, c, d and the idle state, all of order 2, (a b) of order 16.
GRIGORCHUK = (2, (
    ((1, 0), (4, 4)), ((0, 1), (0, 2)), ((0, 1), (0, 3)), ((0, 1), (4, 1)), ((0, 1), (4, 4)),
))

# Of Gupta and Sidki: a turns the letters round, t is of order 3, as all is of an order that 3s make up.
GUPTA_SIDKI = (3, (
    ((1, 2, 0), (2, 2, 2)), ((0, 1, 2), (0, 3, 1)), ((0, 1, 2), (2, 2, 2)), ((2, 0, 1), (2, 2, 2)),
))

# Of Aleshin: rows of signs there alone are all unlike.
ALESHIN = (2, (((1, 0), (2, 1)), ((1, 0), (1, 2)), ((0, 1), (0, 0))))

# Done once, twice, three and four times it has 5, 10, 18 and 16 states.
SWELLING = (2, (
    ((0, 1), (1, 2)), ((0, 1), (1, 1)), ((0, 1), (3, 2)), ((1, 0), (4, 0)), ((0, 1), (4, 0)),
))

# Done four times it is idle, and twice it has 17 states.
ROUND_AND_ROUND = (4, (
    ((1, 2, 3, 0), (1, 2, 2, 3)), ((3, 0, 1, 2), (4, 4, 4, 4)), ((0, 3, 2, 1), (5, 6, 5, 5)),
    ((1, 2, 3, 0), (7, 8, 7, 9)), ((0, 1, 2, 3), (4, 4, 4, 4)), ((3, 0, 2, 1), (4, 6, 6, 6)),
    ((1, 2, 3, 0), (4, 4, 4, 4)), ((3, 0, 2, 1), (10, 1, 10, 1)), ((0, 2, 1, 3), (1, 1, 1, 4)),
    ((0, 1, 3, 2), (4, 1, 1, 1)), ((2, 3, 0, 1), (4, 4, 4, 4)),
))

# Letters 0 and 1 are turned about; done twice it has 21 states, and yet behind letter 0 it has 4 then.
SMALL_BEHIND = (3, (
    ((1, 0, 2), (1, 2, 3)), ((0, 2, 1), (1, 1, 2)), ((2, 0, 1), (2, 1, 1)), ((2, 0, 1), (4, 2, 0)),
    ((0, 2, 1), (1, 5, 5)), ((1, 0, 2), (5, 1, 5)),
))

SIXTEEN_RETURNS = (
    (2, (((1, 0), (1, 2)), ((1, 0), (2, 2)), ((0, 1), (3, 4)), ((0, 1), (4, 5)), ((1, 0), (6, 6)),
         ((0, 1), (4, 6)), ((0, 1), (6, 6)))),
    (3, (((1, 2, 0), (1, 2, 3)), ((0, 1, 2), (2, 2, 2)), ((1, 2, 0), (4, 4, 3)), ((0, 2, 1), (5, 5, 4)),
         ((0, 1, 2), (4, 4, 4)), ((2, 0, 1), (4, 4, 4)))),
)
SEVENTEEN_RETURNS = (
    (2, (((1, 0), (1, 2)), ((0, 1), (3, 3)), ((0, 1), (3, 1)), ((0, 1), (4, 5)), ((1, 0), (5, 6)),
         ((1, 0), (6, 6)), ((0, 1), (6, 6)))),
    (3, (((2, 0, 1), (1, 2, 3)), ((0, 1, 2), (2, 4, 2)), ((2, 0, 1), (2, 2, 2)), ((0, 1, 2), (1, 1, 4)),
         ((2, 1, 0), (2, 2, 2)))),
)

# (doing, lead, ring): at the beginnings of lead and ring, ring, .. there are just 16 returns, in all there are more.
SIXTEEN_ALONG = (
    ((2, (((0, 1), (1, 2)), ((1, 0), (3, 4)), ((1, 0), (2, 5)), ((1, 0), (3, 6)), ((0, 1), (2, 7)), ((0, 1), (5, 5)),
          ((1, 0), (8, 5)), ((0, 1), (2, 5)), ((1, 0), (5, 5)))), (), (0, 0, 1, 1, 1, 1)),
    ((3, (((2, 1, 0), (1, 2, 3)), ((2, 1, 0), (4, 4, 4)), ((0, 2, 1), (5, 6, 7)), ((0, 2, 1), (8, 8, 9)),
          ((1, 0, 2), (10, 10, 10)), ((0, 2, 1), (10, 10, 10)), ((2, 0, 1), (10, 10, 10)), ((0, 1, 2), (10, 10, 4)),
          ((2, 0, 1), (6, 6, 10)), ((2, 0, 1), (8, 8, 9)), ((0, 1, 2), (10, 10, 10)))), (0, 0, 2), (0, 1, 0, 1, 1)),
    ((4, (((0, 1, 2, 3), (1, 2, 3, 4)), ((2, 1, 3, 0), (5, 6, 7, 8)), ((0, 1, 2, 3), (9, 10, 11, 7)),
          ((1, 3, 0, 2), (12, 9, 12, 3)), ((2, 1, 0, 3), (7, 8, 7, 8)), ((2, 0, 1, 3), (9, 9, 13, 7)),
          ((2, 3, 0, 1), (7, 8, 13, 9)), ((3, 1, 2, 0), (9, 9, 13, 7)), ((3, 0, 1, 2), (7, 8, 13, 9)),
          ((0, 1, 2, 3), (9, 9, 9, 9)), ((3, 0, 1, 2), (9, 9, 9, 9)), ((3, 1, 0, 2), (13, 9, 9, 9)),
          ((3, 1, 2, 0), (9, 10, 10, 9)), ((0, 2, 1, 3), (13, 9, 9, 9)))), (2, 3, 2), (3, 2, 2, 2, 2)),
)
# Here there are 17, and in the second one's place 18; all of them are held.
MORE_ALONG = (
    ((2, (((1, 0), (1, 2)), ((0, 1), (3, 4)), ((1, 0), (5, 5)), ((0, 1), (6, 2)), ((1, 0), (7, 4)), ((0, 1), (5, 5)),
          ((0, 1), (8, 5)), ((1, 0), (2, 2)), ((1, 0), (5, 8)))), (1,), (0, 1, 0)),
    (SIXTEEN_ALONG[0][0], (0,), (0, 1, 1, 0, 0)),
)

# One letter's state behind the other's, of Basilica: its core has seven doings, two of them no state's.
BASILICA = (2, (((0, 1), (2, 1)), ((1, 0), (2, 0)), ((0, 1), (2, 2))))

CORES_OF_SIXTEEN = (
    (2, (((0, 1), (5, 2)), ((0, 1), (5, 5)), ((0, 1), (3, 0)), ((1, 0), (5, 5)), ((1, 0), (5, 4)), ((0, 1), (5, 5)))),
    (3, (((1, 2, 0), (1, 3, 0)), ((1, 2, 0), (3, 1, 3)), ((2, 1, 0), (3, 1, 2)), ((0, 1, 2), (3, 3, 3)))),
    (4, (((0, 1, 2, 3), (3, 3, 1, 2)), ((0, 2, 1, 3), (3, 3, 3, 1)), ((1, 3, 2, 0), (3, 0, 3, 3)),
         ((0, 1, 2, 3), (3, 3, 3, 3)))),
)
# Each of these, done and then a state's doing, is held; there are only too many of them.
CORES_OF_SEVENTEEN = (
    (2, (((1, 0), (3, 4)), ((1, 0), (4, 4)), ((1, 0), (4, 0)), ((0, 1), (1, 2)), ((0, 1), (4, 4)))),
    (3, (((0, 2, 1), (1, 2, 2)), ((2, 0, 1), (2, 0, 0)), ((0, 1, 2), (2, 2, 2)))),
    (4, (((2, 3, 1, 0), (2, 1, 0, 1)), ((2, 0, 1, 3), (2, 1, 2, 0)), ((0, 1, 2, 3), (2, 2, 2, 2)))),
)
# The core has from 8 to 12 doings, but one of them done and then a state's isn't held.
CORES_NOT_GROWN = (
    (2, (((0, 1), (5, 4)), ((0, 1), (0, 5)), ((0, 1), (3, 5)), ((0, 1), (4, 1)), ((1, 0), (0, 1)), ((0, 1), (5, 5)))),
    (2, (((0, 1), (3, 4)), ((0, 1), (4, 0)), ((1, 0), (4, 4)), ((1, 0), (3, 1)), ((0, 1), (4, 4)))),
    (3, (((1, 2, 0), (2, 0, 1)), ((2, 0, 1), (2, 0, 3)), ((2, 1, 0), (3, 3, 3)), ((0, 1, 2), (3, 3, 3)))),
    (3, (((0, 2, 1), (4, 3, 2)), ((2, 1, 0), (4, 4, 4)), ((1, 0, 2), (3, 4, 4)), ((2, 0, 1), (0, 3, 1)),
         ((0, 1, 2), (4, 4, 4)))),
    (4, (((3, 1, 2, 0), (2, 6, 2, 5)), ((1, 2, 3, 0), (4, 3, 6, 6)), ((0, 3, 1, 2), (6, 0, 6, 6)),
         ((1, 3, 2, 0), (0, 6, 6, 6)), ((3, 0, 1, 2), (3, 6, 6, 6)), ((3, 1, 2, 0), (6, 5, 6, 6)),
         ((0, 1, 2, 3), (6, 6, 6, 6)))),
)

HUGE = 10 ** 5000


def nested(depth):
    """A tuple and a list in turn, depth of them within one another."""
    thing = 0
    for level in range(depth):
        thing = (thing,) if level % 2 else [thing]
    return thing


ODD_THINGS = (
    None, True, False, 0, 1, 2, -1, HUGE, -HUGE, "", "0", "01", "machine",
    (None,), (True,), (False, 0), ("0",), ("",), (0, "1"), (0, None), ((0,),), ([0],), (HUGE,), (-HUGE,),
    [], [0], [0, 1], [None], [[], ()], (2, ()), (2, []), (2, (0,)), (2, ((),)), (2, "01"), ("2", ADDING[1]),
    ((), ()), (1, 2, 3), [2, ADDING[1]], (2, list(ADDING[1])), nested(8), (2, nested(7)),
    (2, (nested(6),)), (2, ((nested(5), nested(5)),)),
)

NO_MACHINES = ODD_THINGS + ((), (0,), (0, 1), (ADDING,), (2,))

NO_ROWS = (
    None, True, 0, "", "0", [], [0], [0, -1], (2,), (-3,), (0, 2), (0, -3), (True,), (0, False), (None,), ("0",),
    ((0,),), ([0],), (HUGE,), (-HUGE,), (0,) * 17, nested(8), ADDING,
)

NO_WORDS = (
    None, True, 0, 1, "", "01", [], [0, 1], (2,), (-1,), (0, 2), (0, -1), (True,), (0, False), (None,), ("0",),
    ((0,),), ([0],), (HUGE,), (0,) * 201, nested(8), ADDING,
)

NO_LETTERS = (None, True, False, "0", "", (), (0,), [0], [], -1, -2, 4, HUGE, -HUGE, nested(8), ADDING)

# Of what looks like a length.
NO_LENGTHS = (None, True, False, "1", "", (), (1,), [1], [], -1, -2, 201, 202, HUGE, -HUGE, nested(8), ADDING)


def words_to(letters, length):
    """All words of up to this many letters, shorter ones ahead."""
    return [word for many in range(length + 1) for word in product(range(letters), repeat=many)]


def small_machines():
    """Every machine of two letters with one or two states."""
    machines = []
    for many in (1, 2):
        states = list(product(((0, 1), (1, 0)), product(range(many), repeat=2)))
        machines += [(2, chosen) for chosen in product(states, repeat=many)]
    return machines


def told_by(deed, *handed_in):
    """The class of the refusal, or None where nothing is refused."""
    try:
        deed(*handed_in)
    except ValueError as e:
        return type(e)
    return None


def rows_to(machine, length):
    """All rows of up to this many signs."""
    many = len(machine[1])
    return [row for signs in range(length + 1) for row in product(range(-many, many), repeat=signs)]


def first_refusal(*refusals):
    """The first of the classes that is one, None where none is."""
    return next((refusal for refusal in refusals if refusal is not None), None)


def chain(letters, many):
    """A least table of so many states: it turns just the letter in place many - 2 about, and nothing behind it."""
    nothing = tuple(range(letters))
    told = [(nothing, (at + 1,) * letters) for at in range(many - 2)]
    told += [(nothing[::-1], (many - 1,) * letters)] * (many > 1)
    return (letters, tuple(told) + ((nothing, (many - 1,) * letters),))


def standing(turns, behind):
    """The doing that turns the first letter so, and behind each letter does what stands in its place."""
    states = [[turns, []]]
    for doing in behind:
        states[0][1].append(len(states))
        states += [(one, tuple([len(states) + number for number in nexts])) for one, nexts in doing[1]]
    states[0] = (turns, tuple(states[0][1]))
    return reference.least(len(turns), reference.doing_chain((len(turns), tuple(states))))


def marked(marks):
    """Where a word is 0 so many times, then 1, it turns the next letter about if marks has 1 at this number, the marks
    told again and again."""
    many = len(marks)
    states = [((0, 1), ((at + 1) % many, many if mark else many + 1)) for at, mark in enumerate(marks)]
    states += [((1, 0), (many + 1, many + 1)), ((0, 1), (many + 1, many + 1))]
    return reference.least(2, reference.doing_chain((2, tuple(states))))


# Told again and again these are alike at 25 places, and not at the next one.
MARKED_14 = marked((1,) * 12 + (0, 1))
MARKED_13 = marked((1,) * 12 + (0,))

NO_DOINGS = NO_MACHINES + (
    (2, ()), (2, (((0, 1), (0, 0)), ((0, 1), (1, 1)))), (2, (((0, 1), (1, 1)), ((0, 1), (0, 0)))),
    (2, (((0, 1), (0, 1)), ((1, 0), (1, 1)), ((1, 0), (2, 2)))), (2, (((0, 1), (0, 0)), ((1, 0), (1, 1)))),
    (2, (((0, 1), (2, 1)), ((1, 0), (1, 1)), ((0, 1), (2, 1)))),
    (2, (((0, 1), (1, 0)), ((0, 1), (1, 0)), ((1, 0), (2, 2)))), ALESHIN, GRIGORCHUK, GUPTA_SIDKI,
    (2, (((False, True), (0, 0)),)), (2, (((0, 1), (False, 0)),)), (2, (((0, 1), (0, 1)),)), (2, (((0, 0), (0, 0)),)),
    (2, (((1, 2), (0, 0)),)), (2, (((0, 1), (0, 0, 0)),)), (2, (((0, 1), (0, -1)),)), (3, (((0, 1), (0, 0)),)),
    (2, [((0, 1), (0, 0))]), (2, ([(0, 1), (0, 0)],)), (2, (([0, 1], (0, 0)),)), (2, (((0, 1), [0, 0]),)),
    [2, (((0, 1), (0, 0)),)], (True, (((0, 1), (0, 0)),)), (1, (((0,), (0,)),)), (5, (((0, 1, 2, 3, 4), (0,) * 5),)),
    chain(2, 17), chain(3, 17), chain(4, 17), chain(2, 40), chain(2, 3) + (0,), (2, chain(2, 3)[1], ()), (chain(2, 3),),
)


class Numbers:
    """Numbers that look like chance and are the same on each run."""

    def __init__(self, seed):
        self.state = seed

    def below(self, most):
        self.state = (self.state * 6364136223846793005 + 1442695040888963407) % 2 ** 64
        return (self.state >> 33) % most

    def within(self, low, high):
        return low + self.below(high - low + 1)

    def turns(self, letters):
        left = list(range(letters))
        return tuple([left.pop(self.below(len(left))) for _ in range(letters)])

    def word(self, letters, length):
        return tuple([self.below(letters) for _ in range(length)])

    def states(self, letters, many):
        return tuple([
            (self.turns(letters), tuple([self.below(many) for _ in range(letters)])) for _ in range(many)
        ])

    def machine(self, letters, most):
        return (letters, self.states(letters, self.within(1, most)))

    def row(self, machine, most):
        many = len(machine[1])
        return tuple([self.within(-many, many - 1) for _ in range(self.within(0, most))])


def some_doings(letters, many, seed):
    """Doings of up to 7 states, the same ones on each run."""
    numbers = Numbers(seed)
    told = []
    for _ in range(many):
        states = numbers.states(letters, numbers.within(1, 7))
        told.append(reference.least(letters, reference.doing_chain((letters, states))))
    return told


def held_doings(letters, many, seed):
    """Doings whose returns are told, of few states and not all of one kind, the same ones on each run."""
    numbers = Numbers(seed)
    told = []
    while len(told) < many:
        states = numbers.within(1, 6)
        table = [
            (numbers.turns(letters),
             tuple([numbers.within(at, states) if numbers.below(3) else states for _ in range(letters)]))
            for at in range(states)
        ]
        table.append((tuple(range(letters)), (states,) * letters))
        doing = reference.least(letters, reference.doing_chain((letters, tuple(table))))
        if doing is not None and reference.returns(doing) is not None:
            told.append(doing)
    return told


def some_machines(many, seed, most=5):
    """Machines that have an idle state to which most lead, the same ones on each run."""
    numbers = Numbers(seed)
    told = []
    for _ in range(many):
        letters, states = numbers.within(2, 4), numbers.within(1, most)
        table = [
            (numbers.turns(letters),
             tuple([numbers.below(states) if numbers.below(3) == 0 else states for _ in range(letters)]))
            for _ in range(states)
        ]
        told.append((letters, (*table, (tuple(range(letters)), (states,) * letters))))
    return told


def or_too_many(deed, *handed_in):
    """What is told, None where TooMany is."""
    try:
        return deed(*handed_in)
    except TooMany:
        return None
