"""Doings: a row's turning of all words, held as one least table."""

from homerounds.errors import NoDoing, NoFit
from homerounds.machines import (
    FEWEST_LETTERS, MOST_LETTERS, is_table, need_machine, need_word, state_after, turned_from,
)
from homerounds.reach import first_ways
from homerounds.rows import need_row, other_way
from homerounds.tables import MOST_HELD, back_states, joined_states, least_from, renumbered
from homerounds.things import need_number

MOST_TIMES = 64


def is_doing(thing):
    """Whether it is a held doing: a least table of at most 16 states, numbered by words."""
    return is_table(thing, MOST_HELD) and least_from(thing[1], 0) == thing[1]


def need_doing(thing):
    """Refuse what is no held doing."""
    if not is_doing(thing):
        raise NoDoing("a doing is a least table (number of letters, states) of at most 16 states")


def need_fit(one, other):
    """Refuse doings of unlike many letters."""
    if one[0] != other[0]:
        raise NoFit("these doings have unlike many letters")


def idle_of(letters):
    """The idle doing."""
    return (letters, ((tuple(range(letters)), (0,) * letters),))


def join(one, other):
    """The doing of the one done, then the other; TooMany where it isn't held."""
    return (one[0], least_from(joined_states(one[1], other[1]), 0))


def undone(doing):
    """The back of the doing, as held as it is."""
    return (doing[0], least_from(back_states(doing[1]), 0))


def behind_letters(doing, word):
    """The doing behind the letters, as held as it is."""
    return state_doing(doing, state_after(doing[1], 0, word))


def state_doing(doing, at):
    """The doing of the state, as held as the doing. No two of its states are alike, so none need be sought."""
    return (doing[0], tuple(renumbered(doing[1], at)))


def powers(doing, most):
    """The doing done once, twice, .., most times: a list; TooMany where one isn't held."""
    told = [doing]
    while len(told) < most:
        told.append(join(told[-1], doing))
    return told


def idle(letters):
    """The doing of so many letters that turns no word."""
    need_number(letters, FEWEST_LETTERS, MOST_LETTERS)
    return idle_of(letters)


def doing_of(machine, row):
    """The row's doing; TooMany where that of one of its beginnings isn't held."""
    need_machine(machine)
    need_row(machine, row)
    letters, states = machine
    backs = back_states(states)
    told = idle_of(letters)[1]
    for sign in row:
        # State 0, then the sign's state: its number among all pairs is the sign's own.
        if sign >= 0:
            told = least_from(joined_states(told, states), sign)
        else:
            told = least_from(joined_states(told, backs), other_way(sign))
    return (letters, told)


def does(doing, word):
    """The word into which the doing turns the word."""
    need_doing(doing)
    need_word(doing[0], word)
    return turned_from(doing[1], 0, word)


def behind(doing, word):
    """The doing by which what follows the word is turned."""
    need_doing(doing)
    need_word(doing[0], word)
    return behind_letters(doing, word)


def joined(one, other):
    """The doing of the one done, then the other."""
    need_doing(one)
    need_doing(other)
    need_fit(one, other)
    return join(one, other)


def back(doing):
    """The doing that undoes the doing."""
    need_doing(doing)
    return undone(doing)


def times(doing, number):
    """The doing done so many times, below 0 its back so often."""
    need_doing(doing)
    need_number(number, -MOST_TIMES, MOST_TIMES)
    if number == 0:
        return idle_of(doing[0])
    if number < 0:
        return powers(undone(doing), -number)[-1]
    return powers(doing, number)[-1]


def first_unlike(one, other):
    """The shortest word that the two turn unlike, of these the least, or None."""
    need_doing(one)
    need_doing(other)
    need_fit(one, other)
    ways = first_ways((0, 0), lambda pair: pairs_behind(one[1], other[1], pair))
    for (at, beside), word in ways.items():
        for letter in range(one[0]):
            if one[1][at][0][letter] != other[1][beside][0][letter]:
                return (*word, letter)
    return None


def pairs_behind(ones, others, pair):
    """For each letter the pair of states behind it, where both are handed the same word."""
    return list(zip(ones[pair[0]][1], others[pair[1]][1]))
