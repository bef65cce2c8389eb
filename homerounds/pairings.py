"""Rounds of letters by their least letters: the trees that they make, and how those of two doings are paired."""

from homerounds.returns import return_graph, round_from
from homerounds.tables import first_places


def least_letters(doing):
    """The least letter of each of the doing's rounds of letters, rising."""
    return [letter for letter in range(doing[0]) if letter == min(round_from(doing, letter))]


def round_graph(doing):
    """The returns, and for each a list: for each round (its length, the number of the return at its least letter)."""
    told, steps = return_graph(doing)
    return told, [[ahead[letter] for letter in least_letters(one)] for one, ahead in zip(told, steps)]


def both_graphs(one, other):
    """The returns of the one, then of the other, the rounds of each, and the number at which the other stands."""
    told, graph = round_graph(one)
    more, beside = round_graph(other)
    many = len(told)
    for rounds_of_one in beside:
        graph.append([(length, many + following) for length, following in rounds_of_one])
    return told + more, graph, many


def trees_of(graph, length):
    """For each return its tree, cut at the length."""
    trees = [()] * len(graph)
    for _ in range(length):
        trees = [tuple(sorted([(many, trees[following]) for many, following in ahead])) for ahead in graph]
    return trees


def finer(graph, classes):
    """For each return its tree's number where trees are cut one letter later: alike ones have one number."""
    return first_places([tuple(sorted(round_classes(ahead, classes))) for ahead in graph])


def round_classes(ahead, classes):
    """For each round its length, and the number of the tree behind it."""
    return [(many, classes[following]) for many, following in ahead]


def classes_cut(graph, length):
    """For each return its tree's number, cut at the length: trees that are alike have one number."""
    classes = [0] * len(graph)
    # Each letter more parts the returns further or none does from there on: so as many letters as returns do.
    for _ in range(min(length, len(graph))):
        classes = finer(graph, classes)
    return classes


def first_parting(graph, one, other):
    """The least length at which the two returns' trees are unlike, or None."""
    classes = [0] * len(graph)
    for length in range(len(graph)):
        if classes[one] != classes[other]:
            return length
        classes = finer(graph, classes)
    return None


def paired_rounds(graph, classes, pair):
    """For two returns of like trees the numbers of rounds (of the one, of the other) that go to one another.

    Of the rounds of one length, with like trees behind them, the first goes to the first, and so on.
    """
    ones, others = [round_classes(graph[number], classes) for number in pair]
    told = []
    for at, key in enumerate(ones):
        same = [beside for beside, other in enumerate(others) if other == key]
        told.append((at, same[ones[:at].count(key)]))
    return told


def pairs_behind(graph, classes, pair):
    """The pairs of returns at the least letters of the rounds that go to one another."""
    one, other = pair
    return [(graph[one][at][1], graph[other][beside][1]) for at, beside in paired_rounds(graph, classes, pair)]
