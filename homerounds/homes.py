"""Homes: after how many times a word is itself again."""

from homerounds.doings import need_doing
from homerounds.errors import NoWord, TooMany
from homerounds.levels import need_length
from homerounds.machines import need_word
from homerounds.returns import MOST_RETURNS, return_graph, return_onward, returns_along, round_from

# For each length of a round how often two and three divide it.
TWOS_AND_THREES = {1: (0, 0), 2: (1, 0), 3: (0, 1), 4: (2, 0)}


def homes_along(doing, word):
    """The homes of the word's beginnings, from the empty one to itself.

    TooMany where the return at one of them isn't held; at the word itself it isn't asked for.
    """
    told = [1]
    for ahead, letter in zip(returns_along(doing, word[:-1]), word):
        told.append(told[-1] * len(round_from(ahead, letter)))
    return told


def home(doing, word):
    """After how many times the word is itself again, at least once."""
    need_doing(doing)
    need_word(doing[0], word)
    return homes_along(doing, word)[-1]


def homes(doing, word):
    """The homes of the word's beginnings, from the empty one to itself."""
    need_doing(doing)
    need_word(doing[0], word)
    return homes_along(doing, word)


def endless(doing, lead, ring):
    """Of the lead, then the ring again and again: ("home", n), or ("never",)."""
    need_doing(doing)
    need_word(doing[0], lead)
    need_word(doing[0], ring)
    if not ring:
        raise NoWord("a word that is done again and again isn't empty")
    path = Path(doing)
    path.follow(lead)
    # The homes at the places where the ring begins, by the returns there: at one that comes again all goes round.
    begun = {}
    while path.return_here not in begun:
        begun[path.return_here] = path.home_here
        path.follow(ring)
    if begun[path.return_here] == path.home_here:
        return ("home", path.home_here)
    return ("never",)


class Path:
    """How far an endless word is gone along: the return and the home there, and all returns on the way."""

    def __init__(self, doing):
        self.return_here = doing
        self.home_here = 1
        self._met = {doing: True}
        self._known = {}

    def follow(self, word):
        """Go along the word; TooMany where a return isn't held, or there are more than 16."""
        for letter in word:
            self.home_here = self.home_here * len(round_from(self.return_here, letter))
            self.return_here = return_onward(self.return_here, letter, self._known)
            self._met[self.return_here] = True
            if len(self._met) > MOST_RETURNS:
                raise TooMany("this word comes to more than 16 returns")


def homes_of(doing, length):
    """A list of tuples (home, how many words of the length have it), rising."""
    need_doing(doing)
    need_length(length)
    _, steps = return_graph(doing)
    # Each slot holds any count of words of this length.
    width = 2 * length + 1
    told = [{0: 1} for _ in steps]
    for _ in range(length):
        told = [one_letter_longer(told, ahead, width) for ahead in steps]
    return sorted(unpacked(told[0], length, width))


def one_letter_longer(told, ahead, width):
    """The counts of homes behind a return of which each letter's (length of the round, return) is handed in.

    Counts are a dict: how often three divides the home leads to one number, in which the slot of so many bits
    with the number k holds the count of homes that two divides k times. There may be many homes, and so all of
    a return are added at once.
    """
    found = {}
    for many, following in ahead:
        twos, threes = TWOS_AND_THREES[many]
        for before, packed in told[following].items():
            found[before + threes] = found.get(before + threes, 0) + (packed << (twos * width))
    return found


def unpacked(counts, length, width):
    """The list of tuples (home, how many) that the counts hold."""
    told = []
    power = 1
    for threes in range(length + 1):
        slots = counts.get(threes, 0)
        home_there = power
        while slots > 0:
            many = slots & ((1 << width) - 1)
            if many > 0:
                told.append((home_there, many))
            slots = slots >> width
            home_there = home_there * 2
        power = power * 3
    return told
