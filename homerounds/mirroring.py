"""The mirror of two mirrored doings, letter by letter."""

from homerounds.doings import behind_letters, powers, undone
from homerounds.errors import NoMirror
from homerounds.pairings import both_graphs, classes_cut, least_letters, paired_rounds
from homerounds.returns import round_from


class Place:
    """What stands behind a word in the mirror, with the word, its image and its home. It is never changed.

    A rest is turned by the first chain, then by the mirror of the pair of returns, then by the last chain. A chain
    is a tuple of tuples (states, number of a state), done one after the other.
    """

    def __init__(self, pair, chains, letters, images, many):
        self.pair = pair
        self.first_chain, self.last_chain = chains
        self.letters = letters
        self.images = images
        self.many = many


class Mirror:
    """The mirror of two doings: it leads from place to place."""

    def __init__(self, one, other):
        self._told, self._graph, self._beside = both_graphs(one, other)
        self._classes = classes_cut(self._graph, len(self._graph))
        if self._classes[0] != self._classes[self._beside]:
            raise NoMirror("no turning of all words leads the one of these doings into the other")
        self.letters_many = one[0]
        self._kept = {}

    def start(self):
        """The place behind the empty word."""
        return Place((0, self._beside), ((), ()), (), (), 1)

    def onward(self, place, letter):
        """The place one letter on."""
        inner, first_chain = through(place.first_chain, letter)
        turned, many, following, chains = self._moves(place.pair)[inner]
        image, last_chain = through(place.last_chain, turned)
        return Place(
            following, (first_chain + chains[0], chains[1] + last_chain),
            (*place.letters, letter), (*place.images, image), place.many * many,
        )

    def _moves(self, pair):
        """For each letter what the mirror of the pair of returns makes of it; kept, as a walk comes again."""
        if pair not in self._kept:
            self._kept[pair] = self._worked_out(pair)
        return self._kept[pair]

    def _worked_out(self, pair):
        """For each letter (its image, how long its round is, the pair of returns, the two chains behind it)."""
        one, other = [self._told[number] for number in pair]
        moves = {}
        for at, beside in paired_rounds(self._graph, self._classes, pair):
            following = (self._graph[pair[0]][at][1], self._graph[pair[1]][beside][1])
            ones = round_behind(one, least_letters(one)[at])
            others = round_behind(other, least_letters(other)[beside])
            for (letter, there), (image, beyond) in zip(ones, others):
                chains = (tuple([(undone(doing)[1], 0) for doing in there]),
                          tuple([(doing[1], 0) for doing in beyond]))
                moves[letter] = (image, len(ones), following, chains)
        return moves


def round_behind(doing, least):
    """For each letter of the least one's round, from it on, a tuple (letter, what stands behind the least one).

    This is a list: of what stands there when the doing is done till the letter comes, empty where it isn't done.
    """
    letters = round_from(doing, least)
    done = powers(doing, len(letters))
    behind_least = [[behind_letters(one, (least,))] for one in done]
    return list(zip(letters, [[]] + behind_least))


def through(chain, letter):
    """The letter into which the chain turns the letter, and the chain behind it."""
    told = []
    for states, at in chain:
        turns, nexts = states[at]
        told.append((states, nexts[letter]))
        letter = turns[letter]
    return letter, tuple(told)
