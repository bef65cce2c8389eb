"""Rows of states, there and back: how they turn words, and what stands behind."""

from homerounds.errors import NoRow
from homerounds.machines import need_machine, need_word
from homerounds.things import are_within, is_tuple_of

LONGEST_ROW = 16


def is_row(machine, thing):
    """Whether it is a row of the machine's signs."""
    need_machine(machine)
    many = len(machine[1])
    return is_tuple_of(thing, 0, LONGEST_ROW) and are_within(thing, -many, many - 1)


def need_row(machine, thing):
    """Refuse what is no row of the machine."""
    if not is_row(machine, thing):
        raise NoRow("a row is a tuple of at most 16 signs of the machine")


def other_way(sign):
    """The sign that undoes the sign."""
    return -1 - sign


def sign_step(states, sign, letter):
    """The letter into which the sign turns the letter, and the sign behind it."""
    if sign >= 0:
        turns, nexts = states[sign]
        return turns[letter], nexts[letter]
    turns, nexts = states[other_way(sign)]
    source = turns.index(letter)
    return source, other_way(nexts[source])


def row_step(states, row, letter):
    """The letter into which the row turns the letter, and the row behind it."""
    signs = []
    for sign in row:
        letter, sign_behind = sign_step(states, sign, letter)
        signs.append(sign_behind)
    return letter, tuple(signs)


def row_turned(machine, row, word):
    """The word into which the row turns the word."""
    need_machine(machine)
    need_row(machine, row)
    need_word(machine[0], word)
    told = []
    for letter in word:
        turned, row = row_step(machine[1], row, letter)
        told.append(turned)
    return tuple(told)


def row_behind(machine, row, word):
    """The row by which what follows the word is turned: as many signs, not made plain."""
    need_machine(machine)
    need_row(machine, row)
    need_word(machine[0], word)
    for letter in word:
        _, row = row_step(machine[1], row, letter)
    return row


def row_back(machine, row):
    """The row that turns each word into the one that the row turns into it."""
    need_machine(machine)
    need_row(machine, row)
    return tuple([other_way(sign) for sign in row[::-1]])


def plain(machine, row):
    """The row without neighbours that undo one another, also those that meet then."""
    need_machine(machine)
    need_row(machine, row)
    kept = []
    for sign in row:
        if kept and kept[-1] == other_way(sign):
            kept.pop()
        else:
            kept.append(sign)
    return tuple(kept)
