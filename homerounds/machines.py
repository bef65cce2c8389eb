"""Machines, words, how a state turns a word, and what stands behind it."""

from homerounds.errors import NoLetter, NoMachine, NoState, NoWord
from homerounds.things import are_within, is_tuple_of, is_within

FEWEST_LETTERS = 2
MOST_LETTERS = 4
MOST_STATES = 8
LONGEST_WORD = 200


def is_machine(thing):
    """Whether it is a tuple (number of letters, states) of a machine."""
    return is_table(thing, MOST_STATES)


def is_table(thing, most):
    """Whether it is a tuple (number of letters, states) with at most so many states."""
    if not is_tuple_of(thing, 2, 2):
        return False
    letters, states = thing
    if not is_within(letters, FEWEST_LETTERS, MOST_LETTERS):
        return False
    if not is_tuple_of(states, 1, most):
        return False
    return all([is_state_of(letters, len(states), state) for state in states])


def is_state_of(letters, many, thing):
    """Whether it is a state (turns, nexts) over so many letters and states."""
    if not is_tuple_of(thing, 2, 2):
        return False
    turns, nexts = thing
    return is_turns(letters, turns) and is_nexts(letters, many, nexts)


def is_turns(letters, thing):
    """Whether it is a tuple in which each letter stands once."""
    if not is_tuple_of(thing, letters, letters):
        return False
    # Sorted only behind this test: True equals 1, and texts don't sort with numbers.
    if not are_within(thing, 0, letters - 1):
        return False
    return sorted(thing) == list(range(letters))


def is_nexts(letters, many, thing):
    """Whether it is a tuple with the number of a state for each letter."""
    return is_tuple_of(thing, letters, letters) and are_within(thing, 0, many - 1)


def is_word_of(letters, thing):
    """Whether it is a word over so many letters."""
    return is_tuple_of(thing, 0, LONGEST_WORD) and are_within(thing, 0, letters - 1)


def is_word(machine, thing):
    """Whether it is a word of the machine's letters."""
    need_machine(machine)
    return is_word_of(machine[0], thing)


def need_machine(thing):
    """Refuse what is no machine."""
    if not is_machine(thing):
        raise NoMachine("a machine is a tuple (number of letters, states)")


def need_state(machine, thing):
    """Refuse what is no number of a state of the machine."""
    if not is_within(thing, 0, len(machine[1]) - 1):
        raise NoState("a state is handed in by its number, from 0")


def need_word(letters, thing):
    """Refuse what is no word over so many letters."""
    if not is_word_of(letters, thing):
        raise NoWord("a word is a tuple of at most 200 letters")


def need_letter(letters, thing):
    """Refuse what is none of so many letters."""
    if not is_within(thing, 0, letters - 1):
        raise NoLetter("letters are the numbers from 0 on")


def turned_from(states, state, word):
    """The word into which the state of the table turns the word."""
    told = []
    for letter in word:
        turns, nexts = states[state]
        told.append(turns[letter])
        state = nexts[letter]
    return tuple(told)


def state_after(states, state, word):
    """The number of the state of the table that the state hands on to along the word."""
    for letter in word:
        nexts = states[state][1]
        state = nexts[letter]
    return state


def state_turned(machine, state, word):
    """The word into which the state turns the word."""
    need_machine(machine)
    need_state(machine, state)
    need_word(machine[0], word)
    return turned_from(machine[1], state, word)


def state_behind(machine, state, word):
    """The number of the state by which what follows the word is turned."""
    need_machine(machine)
    need_state(machine, state)
    need_word(machine[0], word)
    return state_after(machine[1], state, word)
