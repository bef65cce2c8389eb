"""The order of a doing: after how many times it turns no word, or that it never comes to this."""

from math import lcm

from homerounds.doings import need_doing
from homerounds.reach import first_ways
from homerounds.returns import return_graph


def order(doing):
    """("order", n, list, words), or ("none", u, v)."""
    need_doing(doing)
    told, steps = return_graph(doing)
    barred = bar(steps)
    if barred is not None:
        return ("none", barred[0], barred[1])
    orders = orders_by(steps)
    return ("order", orders[0], list(zip(told, orders)), words_by(steps))


def bar(steps):
    """Words (u, v): v leads from the return at u back to it, through a round that is longer than 1; or None.

    Where there is one, each time round makes the word's home longer again, so there is no order.
    """
    leads = first_ways(0, lambda number: [following for _, following in steps[number]])
    for at, lead in leads.items():
        ring = first_ways((at, False), lambda place: longer_behind(steps, place)).get((at, True))
        if ring is not None:
            return lead, ring
    return None


def longer_behind(steps, place):
    """For each letter (the return's number there, whether a round on the way was longer than 1)."""
    at, longer = place
    return [(following, longer or many > 1) for many, following in steps[at]]


def orders_by(steps):
    """For each return its order, where no ring of returns goes through a round that is longer than 1.

    Then a shortest word of any home comes to each return once at most: so as many letters are enough as there
    are returns, and each round of the loop takes in words that are one letter longer.
    """
    orders = [1] * len(steps)
    for _ in steps:
        orders = [common([many * orders[following] for many, following in ahead]) for ahead in steps]
    return orders


def common(numbers):
    """The least common multiple of the numbers; of none this is 1."""
    told = 1
    for number in numbers:
        told = lcm(told, number)
    return told


def words_by(steps):
    """Words whose homes have the order as least common multiple, where there is an order."""
    ways = first_ways((0, 1), lambda place: homes_behind(steps, place))
    told = []
    reached = 1
    # From the greatest home on, as it is the most often a multiple of others.
    for (_, home), word in sorted(ways.items(), key=lambda item: -item[0][1]):
        if reached % home != 0:
            told.append(word)
            reached = lcm(reached, home)
    return told


def homes_behind(steps, place):
    """For each letter (the return's number there, the home of the word with this letter behind it)."""
    at, home = place
    return [(following, home * many) for many, following in steps[at]]
