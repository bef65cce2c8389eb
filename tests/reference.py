"""The document's words, done slowly and without the program: what the tests compare it with.

A chain is a tuple of (table, number, there), done one after the other: there tells whether the state of
this number turns there (True) or back (False).
"""

from math import lcm

HELD = 16


class Table:
    """States that are compared as one thing, not each by each."""

    def __init__(self, states):
        self.states = states


def step(chain, letter):
    """The letter into which the chain turns the letter, and the chain behind it."""
    behind = []
    for table, number, there in chain:
        turns, nexts = table.states[number]
        if there:
            behind.append((table, nexts[letter], there))
            letter = turns[letter]
        else:
            letter = turns.index(letter)
            behind.append((table, nexts[letter], there))
    return letter, tuple(behind)


def chain_turned(chain, word):
    told = []
    for letter in word:
        turned, chain = step(chain, letter)
        told.append(turned)
    return tuple(told)


def row_chain(machine, row):
    table = Table(machine[1])
    return tuple([(table, sign, True) if sign >= 0 else (table, -1 - sign, False) for sign in row])


def doing_chain(*doings):
    return tuple([(Table(doing[1]), 0, True) for doing in doings])


def back_chain(doing):
    return ((Table(doing[1]), 0, False),)


def are_alike(letters, one, other):
    """Whether two chains turn all words alike."""
    seen = {(one, other)}
    left = [(one, other)]
    while left:
        one, other = left.pop()
        for letter in range(letters):
            turned, behind = step(one, letter)
            turned_too, behind_too = step(other, letter)
            if turned != turned_too:
                return False
            if behind != behind_too and (behind, behind_too) not in seen:
                seen.add((behind, behind_too))
                left.append((behind, behind_too))
    return True


def least(letters, chain):
    """The chain's doing, its states come to by words, shorter ones ahead; None where it isn't held."""
    found, states = [chain], []
    while len(states) < len(found):
        turns, nexts = [], []
        for letter in range(letters):
            turned, behind = step(found[len(states)], letter)
            places = [at for at, known in enumerate(found) if are_alike(letters, known, behind)]
            if not places:
                places = [len(found)]
                found.append(behind)
                if len(found) > HELD:
                    return None
            turns.append(turned)
            nexts.append(places[0])
        states.append((tuple(turns), tuple(nexts)))
    return (letters, tuple(states))


def row_doing(machine, row):
    """The row's doing; None where that of one of its beginnings isn't held."""
    doing = (machine[0], ((tuple(range(machine[0])), (0,) * machine[0]),))
    for sign in row:
        doing = least(machine[0], doing_chain(doing) + row_chain(machine, (sign,)))
        if doing is None:
            return None
    return doing


def power(doing, number):
    """The doing done so many times, from 1 on; None where it isn't held once, twice, .., each time."""
    told = doing
    for _ in range(number - 1):
        told = least(doing[0], doing_chain(told, doing))
        if told is None:
            return None
    return told


def letters_round(doing, letter):
    told, turned = [letter], doing[1][0][0][letter]
    while turned != letter:
        told.append(turned)
        turned = doing[1][0][0][turned]
    return told


def return_at(doing, letter):
    done = power(doing, len(letters_round(doing, letter)))
    return None if done is None else least(doing[0], ((Table(done[1]), done[1][0][1][letter], True),))


def returns(doing, most=HELD):
    """The returns; None where one isn't held or told, or there are more than so many."""
    told, at = [doing], 0
    while at < len(told):
        for letter in range(doing[0]):
            one = return_at(told[at], letter)
            if one is None:
                return None
            if one not in told:
                told.append(one)
        if len(told) > most:
            return None
        at += 1
    return told


def home(doing, word):
    """How often the word must be turned until it is itself again, by turning it."""
    turned, many = chain_turned(doing_chain(doing), word), 1
    while turned != word:
        turned, many = chain_turned(doing_chain(doing), turned), many + 1
    return many


def common(numbers):
    told = 1
    for number in numbers:
        told = lcm(told, number)
    return told
