"""Ways through a table of states: where words lead, which lead back, and how many lead where."""

from homerounds.reach import first_ways


def is_idle_at(states, at):
    """Whether the state of the least table turns no word."""
    turns, nexts = states[at]
    return list(turns) == list(range(len(turns))) and all([following == at for following in nexts])


def ways_from(states, at):
    """A dict: for each state that is come to from the state a shortest word that leads there."""
    return first_ways(at, lambda state: states[state][1])


def all_ways(states):
    """For each state the shortest words to all that are come to from it."""
    return [ways_from(states, at) for at in range(len(states))]


def rings_at(states, ways, at):
    """Words that lead the state back to itself: a shortest one for each first letter that some such one has."""
    nexts = states[at][1]
    return [(letter, *ways[following][at]) for letter, following in enumerate(nexts) if at in ways[following]]


def words_to_each(states, length):
    """For each state how many words of the length lead there from state 0."""
    counts = [1] + [0] * (len(states) - 1)
    for _ in range(length):
        ahead = [0] * len(states)
        for many, (_, nexts) in zip(counts, states):
            for following in nexts:
                ahead[following] += many
        counts = ahead
    return counts
