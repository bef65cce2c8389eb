"""With two letters: whether a doing goes through all words of a length in one round."""

from homerounds.doings import need_doing
from homerounds.errors import NoFit
from homerounds.levels import need_length
from homerounds.paths import words_to_each


def odd(doing, length):
    """Whether the number of words of the length is odd that have a turning about of the letters behind them: 1 or 0."""
    need_doing(doing)
    need_length(length)
    need_two_letters(doing)
    return odd_number(doing[1], length)


def need_two_letters(doing):
    """Refuse a doing of more than two letters."""
    if doing[0] != 2:
        raise NoFit("one round is asked for with two letters alone")


def odd_number(states, length):
    """The told number of a length, by the states of the doing."""
    counts = words_to_each(states, length)
    return sum([many for many, (turns, _) in zip(counts, states) if turns[0] == 1]) & 1


def one_round(doing):
    """("one", bits), or ("parted", n)."""
    need_doing(doing)
    need_two_letters(doing)
    states = doing[1]
    # The numbers of words to each state, odd or not, follow a rule of as many terms as there are states: so where
    # these bits are all 1, all further ones are.
    bits = [odd_number(states, length) for length in range(len(states) + 1)]
    if 0 in bits:
        return ("parted", bits.index(0) + 1)
    return ("one", tuple(bits))
