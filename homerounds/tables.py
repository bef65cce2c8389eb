"""Tables of states: turned back, joined, and made least.

A table is a tuple or list of states (turns, nexts), as in a machine, of any number of states.
"""

from homerounds.errors import TooMany
from homerounds.reach import first_ways

MOST_HELD = 16


def back_states(states):
    """The table in which each state, by the same number, undoes the state."""
    told = []
    for turns, nexts in states:
        sources = [turns.index(letter) for letter in range(len(turns))]
        told.append((tuple(sources), tuple([nexts[source] for source in sources])))
    return told


def joined_states(ones, others):
    """The table of all pairs: state i of the ones, then state j of the others, is number i * len(others) + j."""
    many = len(others)
    told = []
    for one_turns, one_nexts in ones:
        for other_turns, other_nexts in others:
            turns = [other_turns[letter] for letter in one_turns]
            nexts = [one * many + other_nexts[letter] for one, letter in zip(one_nexts, one_turns)]
            told.append((tuple(turns), tuple(nexts)))
    return told


def least_from(states, start):
    """The states of the doing of the start state: the least table, numbered as words come to it first."""
    met = renumbered(states, start)
    classes = classes_of(met)
    firsts = [classes.index(number) for number in range(max(classes) + 1)]
    told = []
    for at in firsts:
        turns, nexts = met[at]
        told.append((turns, tuple([classes[following] for following in nexts])))
    return tuple(told)


def renumbered(states, start):
    """The table of the states come to from the start state, numbered as words come to them first."""
    order = list(first_ways(start, lambda state: states[state][1]))
    places = {state: at for at, state in enumerate(order)}
    told = []
    for state in order:
        turns, nexts = states[state]
        told.append((turns, tuple([places[following] for following in nexts])))
    return told


def classes_of(states):
    """For each state its class's number: states of one class turn all words alike.

    The classes are numbered as they stand first in the table. Each round parts the classes further or is
    the last, and each state is come to: so more classes than are held needn't be parted to the end.
    """
    classes = first_places([turns for turns, _ in states])
    while True:
        many = max(classes) + 1
        if many > MOST_HELD:
            raise TooMany("this doing has more than 16 states")
        finer = first_places([
            (classes[at], tuple([classes[following] for following in nexts]))
            for at, (_, nexts) in enumerate(states)
        ])
        if max(finer) + 1 == many:
            return classes
        classes = finer


def first_places(keys):
    """For each key the place at which it stands among the unlike keys, in the order of their coming."""
    places = {}
    for key in keys:
        if key not in places:
            places[key] = len(places)
    return [places[key] for key in keys]
