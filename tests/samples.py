"""Machines and things that several tests take, and small helpers of theirs."""

from itertools import product

# State 0 adds one to a number told by its bits, the least bit first; state 1 turns nothing.
ADDING = (2, (((1, 0), (1, 0)), ((0, 1), (1, 1))))

THREE = (3, (
    ((1, 2, 0), (0, 1, 2)),
    ((0, 2, 1), (2, 1, 0)),
    ((2, 1, 0), (1, 1, 0)),
))

FOUR = (4, tuple([
    (((state + 1) % 4, (state + 2) % 4, (state + 3) % 4, state % 4),
     ((state + 1) % 8, 7 - state, state, 3))
    for state in range(8)
]))

ONE_STATE = (2, (((1, 0), (0, 0)),))

HUGE = 10 ** 5000


def nested(depth):
    """A tuple and a list in turn, depth of them within one another."""
    thing = 0
    for level in range(depth):
        thing = (thing,) if level % 2 else [thing]
    return thing


ODD_THINGS = (
    None, True, False, 0, 1, 2, -1, HUGE, -HUGE, "", "0", "01", "machine",
    (None,), (True,), (False, 0), ("0",), ("",), (0, "1"), (0, None), ((0,),), ([0],), (HUGE,), (-HUGE,),
    [], [0], [0, 1], [None], [[], ()], (2, ()), (2, []), (2, (0,)), (2, ((),)), (2, "01"), ("2", ADDING[1]),
    ((), ()), (1, 2, 3), [2, ADDING[1]], (2, list(ADDING[1])), nested(8), (2, nested(7)),
    (2, (nested(6),)), (2, ((nested(5), nested(5)),)),
)

NO_MACHINES = ODD_THINGS + ((), (0,), (0, 1), (ADDING,), (2,))


def words_to(letters, length):
    """All words of up to this many letters, shorter ones ahead."""
    return [word for many in range(length + 1) for word in product(range(letters), repeat=many)]


def small_machines():
    """Every machine of two letters with one or two states."""
    machines = []
    for many in (1, 2):
        states = list(product(((0, 1), (1, 0)), product(range(many), repeat=2)))
        machines += [(2, chosen) for chosen in product(states, repeat=many)]
    return machines


def told_by(deed, *handed_in):
    """The class of the refusal, or None where nothing is refused."""
    try:
        deed(*handed_in)
    except ValueError as e:
        return type(e)
    return None
