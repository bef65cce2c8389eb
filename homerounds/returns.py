"""Rounds of letters, and the returns: what stands behind a letter that has come home."""

from homerounds.doings import behind_letters, need_doing, powers
from homerounds.errors import TooMany
from homerounds.machines import need_letter, need_word

MOST_RETURNS = 16


def round_from(doing, letter):
    """The letters that the letter goes through under the doing, from it on."""
    turns = doing[1][0][0]
    told = [letter]
    while turns[told[-1]] != letter:
        told.append(turns[told[-1]])
    return told


def return_from(doing, letter):
    """The return at the letter; TooMany where the doing isn't held each time till the letter comes again."""
    return behind_letters(powers(doing, len(round_from(doing, letter)))[-1], (letter,))


def letter_steps(doing):
    """For each letter a tuple (how long its round is, the return at it)."""
    lengths = [len(round_from(doing, letter)) for letter in range(doing[0])]
    done = powers(doing, max(lengths))
    return [(many, behind_letters(done[many - 1], (letter,))) for letter, many in enumerate(lengths)]


def return_graph(doing):
    """The returns, and for each a list: for each letter (how long its round is, the return's number there)."""
    told = [doing]
    steps = []
    while len(steps) < len(told):
        ahead = []
        for many, following in letter_steps(told[len(steps)]):
            if following not in told:
                told.append(following)
            ahead.append((many, told.index(following)))
        if len(told) > MOST_RETURNS:
            raise TooMany("this doing has more than 16 returns")
        steps.append(ahead)
    return told, steps


def return_onward(doing, letter, known):
    """The return at the letter; known keeps what was worked out, as long words come to the same few again."""
    if (doing, letter) not in known:
        known[(doing, letter)] = return_from(doing, letter)
    return known[(doing, letter)]


def returns_along(doing, word):
    """The returns at the word's beginnings, from the empty one to itself; TooMany where one isn't held."""
    known = {}
    told = [doing]
    for letter in word:
        told.append(return_onward(told[-1], letter, known))
    return told


def round_of(doing, letter):
    """The letters that the letter goes through under the doing, from it on."""
    need_doing(doing)
    need_letter(doing[0], letter)
    return round_from(doing, letter)


def return_at(doing, letter):
    """What stands behind the letter when the doing is done till the letter comes again."""
    need_doing(doing)
    need_letter(doing[0], letter)
    return return_from(doing, letter)


def return_behind(doing, word):
    """The return at the word: at each further letter the return of the one ahead."""
    need_doing(doing)
    need_word(doing[0], word)
    return returns_along(doing, word)[-1]


def returns(doing):
    """The doing, its returns, returns of these, and so on, each once, as words come to them first."""
    need_doing(doing)
    told, _ = return_graph(doing)
    return told
