"""The document's words, done slowly and without the program: what the tests compare it with.

A chain is a tuple of (table, number, there), done one after the other: there tells whether the state of
this number turns there (True) or back (False).
"""

from functools import lru_cache
from itertools import permutations
from math import lcm

HELD = 16


class Table:
    """States that are compared as one thing, not each by each."""

    def __init__(self, states):
        self.states = states


def step(chain, letter):
    """The letter into which the chain turns the letter, and the chain behind it."""
    behind = []
    for table, number, there in chain:
        turns, nexts = table.states[number]
        if there:
            behind.append((table, nexts[letter], there))
            letter = turns[letter]
        else:
            letter = turns.index(letter)
            behind.append((table, nexts[letter], there))
    return letter, tuple(behind)


def chain_turned(chain, word):
    told = []
    for letter in word:
        turned, chain = step(chain, letter)
        told.append(turned)
    return tuple(told)


def row_chain(machine, row):
    table = Table(machine[1])
    return tuple([(table, sign, True) if sign >= 0 else (table, -1 - sign, False) for sign in row])


def doing_chain(*doings):
    return tuple([(Table(doing[1]), 0, True) for doing in doings])


def back_chain(doing):
    return ((Table(doing[1]), 0, False),)


def are_alike(letters, one, other):
    """Whether two chains turn all words alike."""
    seen = {(one, other)}
    left = [(one, other)]
    while left:
        one, other = left.pop()
        for letter in range(letters):
            turned, behind = step(one, letter)
            turned_too, behind_too = step(other, letter)
            if turned != turned_too:
                return False
            if behind != behind_too and (behind, behind_too) not in seen:
                seen.add((behind, behind_too))
                left.append((behind, behind_too))
    return True


def least(letters, chain):
    """The chain's doing, its states come to by words, shorter ones ahead; None where it isn't held."""
    found, states = [chain], []
    while len(states) < len(found):
        turns, nexts = [], []
        for letter in range(letters):
            turned, behind = step(found[len(states)], letter)
            places = [at for at, known in enumerate(found) if are_alike(letters, known, behind)]
            if not places:
                places = [len(found)]
                found.append(behind)
                if len(found) > HELD:
                    return None
            turns.append(turned)
            nexts.append(places[0])
        states.append((tuple(turns), tuple(nexts)))
    return (letters, tuple(states))


def row_doing(machine, row):
    """The row's doing; None where that of one of its beginnings isn't held."""
    doing = (machine[0], ((tuple(range(machine[0])), (0,) * machine[0]),))
    for sign in row:
        doing = least(machine[0], doing_chain(doing) + row_chain(machine, (sign,)))
        if doing is None:
            return None
    return doing


@lru_cache(maxsize=None)
def power(doing, number):
    """The doing done so many times, from 1 on; None where it isn't held once, twice, .., each time."""
    told = doing
    for _ in range(number - 1):
        told = least(doing[0], doing_chain(told, doing))
        if told is None:
            return None
    return told


def letters_round(doing, letter):
    told, turned = [letter], doing[1][0][0][letter]
    while turned != letter:
        told.append(turned)
        turned = doing[1][0][0][turned]
    return told


@lru_cache(maxsize=None)
def return_at(doing, letter):
    done = power(doing, len(letters_round(doing, letter)))
    return None if done is None else least(doing[0], ((Table(done[1]), done[1][0][1][letter], True),))


def returns(doing, most=HELD):
    """The returns; None where one isn't held or told, or there are more than so many."""
    told, at = [doing], 0
    while at < len(told):
        for letter in range(doing[0]):
            one = return_at(told[at], letter)
            if one is None:
                return None
            if one not in told:
                told.append(one)
        if len(told) > most:
            return None
        at += 1
    return told


def home(doing, word):
    """How often the word must be turned until it is itself again, by turning it."""
    turned, many = chain_turned(doing_chain(doing), word), 1
    while turned != word:
        turned, many = chain_turned(doing_chain(doing), turned), many + 1
    return many


def common(numbers):
    told = 1
    for number in numbers:
        told = lcm(told, number)
    return told


def idle(letters):
    return (letters, ((tuple(range(letters)), (0,) * letters),))


def state_at(doing, word):
    at = 0
    for letter in word:
        at = doing[1][at][1][letter]
    return at


@lru_cache(maxsize=None)
def state_doing(doing, at):
    return least(doing[0], ((Table(doing[1]), at, True),))


def back(doing):
    return least(doing[0], back_chain(doing))


@lru_cache(maxsize=None)
def joined(one, other):
    return least(one[0], doing_chain(one, other))


def turned(doing, word):
    return chain_turned(doing_chain(doing), word)


def returns_along(doing, word):
    """The returns at the word's beginnings, from the empty one to itself; None from where one isn't held."""
    told = [doing]
    for letter in word:
        told.append(None if told[-1] is None else return_at(told[-1], letter))
    return told


def homes(doing, word):
    """The homes of the word's beginnings by rounds of letters; None where one isn't told."""
    told = [1]
    for ahead, letter in zip(returns_along(doing, word), word):
        if ahead is None:
            return None
        told.append(told[-1] * len(letters_round(ahead, letter)))
    return told


def endless(doing, lead, ring):
    """("home", n) or ("never",); None where there are too many returns, or one isn't held."""
    # Sixteen unlike returns at most: so they have come round long before the ring is done 40 times.
    met = {doing}
    many, at, at_rings = 1, doing, []
    for letter in lead + ring * 40:
        many *= len(letters_round(at, letter))
        at = return_at(at, letter)
        met.add(at)
        if at is None or len(met) > HELD:
            return None
        at_rings.append(many)
    return ("home", many) if at_rings[-1] == at_rings[len(lead) + len(ring) * 20 - 1] else ("never",)


def homes_of(doing, length):
    """How many words of the length have which home, return by return; None where the returns aren't told."""
    if returns(doing) is None:
        return None
    found = {(doing, 1): 1}
    for _ in range(length):
        ahead = {}
        for (one, many), words in found.items():
            for letter in range(doing[0]):
                key = (return_at(one, letter), many * len(letters_round(one, letter)))
                ahead[key] = ahead.get(key, 0) + words
        found = ahead
    told = {}
    for (_, many), words in found.items():
        told[many] = told.get(many, 0) + words
    return sorted(told.items())


def letter_rounds(doing):
    """The rounds of letters, each from its least letter, in the order of these."""
    return [letters_round(doing, a) for a in range(doing[0]) if min(letters_round(doing, a)) == a]


def tree(doing, length):
    if length == 0:
        return ()
    return tuple(sorted([
        (len(letters), tree(return_at(doing, letters[0]), length - 1)) for letters in letter_rounds(doing)
    ]))


TREES = {}


@lru_cache(maxsize=None)
def tree_number(doing, length):
    """A number for the tree, cut at the length: alike trees have the same."""
    if length == 0:
        return 0
    key = tuple(sorted([
        (len(letters), tree_number(return_at(doing, letters[0]), length - 1)) for letters in letter_rounds(doing)
    ]))
    return TREES.setdefault((length, key), len(TREES) + 1)


def parted(one, other):
    """The least length at which the trees are unlike, None where they are alike at all lengths."""
    # Two of so many returns are parted at a lesser length or never.
    for length in range(len(returns(one)) + len(returns(other)) + 1):
        if tree_number(one, length) != tree_number(other, length):
            return length
    return None


@lru_cache(maxsize=None)
def are_mirrored(one, other):
    return parted(one, other) is None


@lru_cache(maxsize=None)
def rounds_in_the_mirror(one, other):
    """Tuples of rounds of letters that go to one another in the mirror, each from its least letter."""
    told, taken = [], []
    for letters in letter_rounds(one):
        ahead = return_at(one, letters[0])
        first = [
            beside for beside in letter_rounds(other)
            if beside not in taken and len(beside) == len(letters)
            and are_mirrored(ahead, return_at(other, beside[0]))
        ][0]
        taken.append(first)
        told.append((letters, first))
    return told


def mirror(one, other, word):
    """The word's image by the one told mirror of two mirrored doings."""
    if not word:
        return ()
    for letters, beside in rounds_in_the_mirror(one, other):
        if word[0] in letters:
            times = letters.index(word[0])
            least_one, least_other = letters[0], beside[0]
            rest = chain_turned(behind_times(one, times, least_one, False), word[1:])
            rest = mirror(return_at(one, least_one), return_at(other, least_other), rest)
            return (beside[times], *chain_turned(behind_times(other, times, least_other, True), rest))


@lru_cache(maxsize=None)
def behind_times(doing, times, letter, there):
    """What stands behind the letter under the doing done so many times, or its back."""
    told = doing_chain(*[doing] * times)
    told = step(told, letter)[1]
    if there:
        return told
    return tuple([(table, number, False) for table, number, _ in told[::-1]])


def can_be_paired(one, other, together):
    """Whether the rounds of letters can be paired, equally long, so that the returns stand in the list together."""
    ones, others = [
        [(len(letters), return_at(doing, letters[0])) for letters in letter_rounds(doing)] for doing in (one, other)
    ]
    return len(ones) == len(others) and any(
        all(first[0] == second[0] and (first[1], second[1]) in together for first, second in zip(ones, ordered))
        for ordered in permutations(others)
    )


def is_idle(doing):
    return doing == idle(doing[0])


def lively_words(doing, words):
    return [word for word in words if not is_idle(state_doing(doing, state_at(doing, word)))]


def lively_states(doing):
    return [at for at in range(len(doing[1])) if not is_idle(state_doing(doing, at))]


def words_to_states(doing, length):
    """For each state how many words of the length lead there from the first one."""
    counts = {0: 1}
    for _ in range(length):
        ahead = {}
        for at, many in counts.items():
            for following in doing[1][at][1]:
                ahead[following] = ahead.get(following, 0) + many
        counts = ahead
    return counts


def led_to(doing):
    """The pairs of states (at, other) such that some word, not empty, leads the one to the other."""
    many = len(doing[1])
    told = {(at, following) for at in range(many) for following in doing[1][at][1]}
    for middle in range(many):
        told |= {(at, to) for at in range(many) for to in range(many) if {(at, middle), (middle, to)} <= told}
    return told


def kind_and_number(doing):
    """("ends", n), ("power", p) or ("doubles",), by which states lead to which."""
    told, alive = led_to(doing), lively_states(doing)
    for at in alive:
        if sum((following, at) in told or following == at for following in doing[1][at][1]) > 1:
            return ("doubles",)
    ringed = [at for at in alive if (at, at) in told]
    longest, chains = 0, [[at] for at in ringed]
    while chains:
        longest += 1
        chains = {
            (chain[-1], to) for chain in chains for to in ringed
            if (chain[-1], to) in told and (to, chain[-1]) not in told
        }
    if longest:
        return ("power", longest - 1)
    length = 0
    while any(at in alive for at in words_to_states(doing, length)):
        length += 1
    return ("ends", length)


def odd(doing, length):
    return sum([many for at, many in words_to_states(doing, length).items() if doing[1][at][0] == (1, 0)]) % 2


def sign_doings(machine):
    """The doings of the machine's states, there and back."""
    return [row_doing(machine, (sign,)) for sign in range(-len(machine[1]), len(machine[1]))]


@lru_cache(maxsize=None)
def lasting(doing):
    """The doings that stand behind words of any length, however long, of the doing."""
    # Words as long as there are states go round somewhere: what stands behind them stands behind longer ones too.
    many = len(doing[1])
    told = {at for length in range(many, 2 * many + 1) for at in words_to_states(doing, length)}
    return tuple([state_doing(doing, at) for at in sorted(told)])


@lru_cache(maxsize=None)
def core(machine):
    """The core as a rising tuple; None where it has more than 16, or one done and then a state's doing isn't held."""
    told, at = [idle(machine[0])], 0
    while at < len(told):
        for sign in sign_doings(machine):
            done = joined(told[at], sign)
            if done is None:
                return None
            for one in lasting(done):
                if one not in told:
                    told.append(one)
        if len(told) > HELD:
            return None
        at += 1
    return tuple(sorted(told))


def depth(doing, inside):
    """The least length such that behind each word of it stands one of these doings."""
    length = 0
    while not all(state_doing(doing, at) in inside for at in words_to_states(doing, length)):
        length += 1
    return length
