"""All words of one length: their rounds, their flocks, and ways between them."""

from homerounds.doings import need_doing
from homerounds.errors import NoFit, TooMany
from homerounds.machines import FEWEST_LETTERS, LONGEST_WORD, MOST_LETTERS, need_machine, need_word, turned_from
from homerounds.reach import first_ways
from homerounds.tables import back_states
from homerounds.things import need_number

MOST_WORDS = 256


def need_length(thing):
    """Refuse what is no length of a word."""
    need_number(thing, 0, LONGEST_WORD)


def need_few_words(letters, length):
    """Refuse a length of which there are more than 256 words."""
    many = 1
    for _ in range(length):
        many = many * letters
    if many > MOST_WORDS:
        raise TooMany("there are more than 256 words of this length")


def words_of(letters, length):
    """All words of the length, rising."""
    words = [()]
    for _ in range(length):
        words = [(*word, letter) for word in words for letter in range(letters)]
    return words


def all_words(letters, length):
    """All words of the length, rising."""
    need_number(letters, FEWEST_LETTERS, MOST_LETTERS)
    need_length(length)
    need_few_words(letters, length)
    return words_of(letters, length)


def rounds(doing, length):
    """The doing's rounds of all words of the length, each from its least word, rising."""
    need_doing(doing)
    need_length(length)
    need_few_words(doing[0], length)
    return parted(words_of(doing[0], length), lambda word: [turned_from(doing[1], 0, word)])


def flocks(machine, length):
    """The words of the length that are led into one another by the machine's states, each list rising, all rising."""
    need_machine(machine)
    need_length(length)
    need_few_words(machine[0], length)
    # There is enough: a state turns the words of a length one to one, so there often enough is back.
    found = parted(words_of(machine[0], length), lambda word: images(machine[1], word))
    return [sorted(flock) for flock in found]


def parted(words, steps):
    """The words in lists: what is come to from the first word, from the first one that is left, and so on."""
    told = []
    seen = set()
    for word in words:
        if word not in seen:
            found = list(first_ways(word, steps))
            told.append(found)
            for one in found:
                seen.add(one)
    return told


def images(states, word):
    """For each state the word into which it turns the word."""
    return [turned_from(states, state, word) for state in range(len(states))]


def way(machine, one, other):
    """A shortest list of signs that leads the one word into the other, or None."""
    need_machine(machine)
    letters, states = machine
    need_word(letters, one)
    need_word(letters, other)
    if len(one) != len(other):
        raise NoFit("these words are of unlike lengths")
    need_few_words(letters, len(one))
    backs = back_states(states)
    ways = first_ways(one, lambda word: images(states, word) + images(backs, word))
    if other not in ways:
        return None
    # The numbers of steps: first the states there, then the states back.
    many = len(states)
    return [number if number < many else many - 1 - number for number in ways[other]]
