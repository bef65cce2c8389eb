"""Mirrors: whether some turning of all words leads one doing into another, and the one told that does."""

from homerounds.doings import idle_of, need_doing, need_fit
from homerounds.errors import TooLong
from homerounds.levels import need_few_words, need_length
from homerounds.machines import need_letter, need_word
from homerounds.mirroring import Mirror
from homerounds.pairings import both_graphs, classes_cut, first_parting, pairs_behind, round_graph, trees_of
from homerounds.reach import first_ways
from homerounds.things import need_number

LONGEST_WALK = 60


def tree(doing, length):
    """The doing's tree of rounds, cut at the length."""
    need_doing(doing)
    need_length(length)
    need_few_words(doing[0], length)
    _, graph = round_graph(doing)
    return trees_of(graph, length)[0]


def mirrored(one, other):
    """("mirrored", pairs), or ("parted", n)."""
    need_doing(one)
    need_doing(other)
    need_fit(one, other)
    told, graph, beside = both_graphs(one, other)
    length = first_parting(graph, 0, beside)
    if length is not None:
        return ("parted", length)
    classes = classes_cut(graph, len(graph))
    pairs = first_ways((0, beside), lambda pair: pairs_behind(graph, classes, pair))
    return ("mirrored", [(told[number], told[other_number]) for number, other_number in pairs])


def mirror(one, other, word):
    """The word into which the mirror of the two doings turns the word."""
    need_doing(one)
    need_doing(other)
    need_word(one[0], word)
    need_fit(one, other)
    leading = Mirror(one, other)
    place = leading.start()
    for letter in word:
        place = leading.onward(place, letter)
    return place.images


class Walk:
    """A word that is fed letter by letter, and its image by the mirror of two doings."""

    def __init__(self, one, other):
        need_doing(one)
        need_doing(other)
        need_fit(one, other)
        self._mirror = Mirror(one, other)
        self._places = [self._mirror.start()]

    def feed(self, letter):
        """Put the letter behind the word; told is the letter that comes behind the image."""
        need_letter(self._mirror.letters_many, letter)
        if len(self._places) > LONGEST_WALK:
            raise TooLong("a walk's word has at most 60 letters")
        self._places.append(self._mirror.onward(self._places[-1], letter))
        return self._places[-1].images[-1]

    def take_back(self, many):
        """Take so many of the last letters back."""
        stand = len(self._places) - 1
        need_number(many, 0, stand)
        del self._places[stand - many + 1:]

    def fork(self):
        """Another walk with the same word in it."""
        # Made of what costs nothing: what tells of the two doings is worked out in this walk, and never changed.
        other = Walk(idle_of(2), idle_of(2))
        other._mirror = self._mirror
        other._places = list(self._places)
        return other

    def word(self):
        """The word that stands in the walk."""
        return self._places[-1].letters

    def image(self):
        """The word's image."""
        return self._places[-1].images

    def home(self):
        """The word's home under the one, which is the image's under the other."""
        return self._places[-1].many
