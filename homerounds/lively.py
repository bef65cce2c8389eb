"""Lively words: those behind which something is still turned. How many there are, and how they grow."""

from homerounds.doings import need_doing
from homerounds.levels import need_length
from homerounds.paths import all_ways, is_idle_at, rings_at, words_to_each


def lively(doing, length):
    """How many words of the length have something behind them that isn't idle."""
    need_doing(doing)
    need_length(length)
    return many_lively(doing[1], length)


def many_lively(states, length):
    """How many words of the length lead from state 0 to one that isn't idle."""
    return sum([many for at, many in enumerate(words_to_each(states, length)) if not is_idle_at(states, at)])


def kind(doing):
    """("ends", n), ("power", p, rings), or ("doubles", lead, one, other)."""
    need_doing(doing)
    states = doing[1]
    ways = all_ways(states)
    rings = [[] if is_idle_at(states, at) else rings_at(states, ways, at) for at in range(len(states))]
    for at, found in enumerate(rings):
        if len(found) > 1:
            return ("doubles", ways[0][at], found[0], found[1])
    # From here on each state has one way round at most: lively words grow as rings stand one behind another.
    chain = longest_chain(ways, [at for at, found in enumerate(rings) if found])
    if chain:
        return ("power", len(chain) - 1, rings_along(ways, rings, chain))
    return ("ends", first_without(states))


def longest_chain(ways, ringed):
    """As many of these states as can be, each of which leads to the next one and none back."""
    chains = {}
    longest = []
    # A state that leads to another and not back leads to more states: so the other's chain stands already.
    for at in sorted(ringed, key=lambda state: len(ways[state])):
        onward = [chains[other] for other in chains if other in ways[at] and at not in ways[other]]
        chains[at] = [at] + max(onward, key=len, default=[])
        longest = max([longest, chains[at]], key=len)
    return longest


def rings_along(ways, rings, chain):
    """For each state of the chain a tuple (lead from the one ahead, ring)."""
    return [(ways[ahead][at], rings[at][0]) for ahead, at in zip([0] + chain, chain)]


def first_without(states):
    """The least length of which no word is lively, where there is one."""
    length = 0
    while many_lively(states, length) > 0:
        length += 1
    return length
