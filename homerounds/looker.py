"""The looker: whether what a paper says of doings, or of a machine's core, is so, clause by clause."""

from itertools import permutations

from homerounds.cores import lasting, products, sign_doings
from homerounds.doings import idle_of, is_doing, need_doing, need_fit
from homerounds.errors import NoPaper
from homerounds.homes import homes_along
from homerounds.machines import LONGEST_WORD, is_word_of, need_machine, state_after
from homerounds.orders import common
from homerounds.pairings import both_graphs, classes_cut, least_letters
from homerounds.paths import is_idle_at, ways_from
from homerounds.returns import letter_steps, return_from, returns_along, round_from
from homerounds.things import is_tuple_of, is_whole, is_within


def is_doing_of(letters, thing):
    """Whether it is a held doing of so many letters."""
    return is_doing(thing) and thing[0] == letters


def is_list_of(thing, is_one):
    """Whether it is a list of what is_one says that it is one."""
    return isinstance(thing, list) and all([is_one(part) for part in thing])


def order_wrong(paper):
    """The number of the first wrong clause of a paper of an order, or None."""
    _, doing, number, listed, words = paper
    letters = doing[0]
    if not is_whole(number) or not is_list_of(listed, lambda thing: is_with_order(letters, thing)):
        return 0
    if (doing, number) not in listed:
        return 0
    if not are_closed(listed):
        return 1
    if not is_list_of(words, lambda thing: is_word_of(letters, thing)):
        return 2
    if common([homes_along(doing, word)[-1] for word in words]) != number:
        return 2
    return None


def is_with_order(letters, thing):
    """Whether it is a tuple (doing of so many letters, whole number from 1 on)."""
    return is_tuple_of(thing, 2, 2) and is_doing_of(letters, thing[0]) and is_whole(thing[1]) and thing[1] >= 1


def are_closed(listed):
    """Whether each return at a letter stands in the list with a number that goes into the one's so often."""
    numbers = {}
    for one, number in listed:
        numbers.setdefault(one, []).append(number)
    # All returns at letters are asked for, also where an earlier one is wrong.
    steps = {one: letter_steps(one) for one in numbers}
    for one, number in listed:
        for many, following in steps[one]:
            if not any([number % (many * other) == 0 for other in numbers.get(following, [])]):
                return False
    return True


def none_wrong(paper):
    """The number of the first wrong clause of a paper of no order, or None."""
    _, doing, lead, ring = paper
    if not is_word_of(doing[0], lead) or not is_word_of(doing[0], ring) or not ring:
        return 0
    ahead = returns_along(doing, lead + ring)
    if ahead[-1] != ahead[len(lead)]:
        return 1
    if not any([len(round_from(one, letter)) > 1 for one, letter in zip(ahead[len(lead):], ring)]):
        return 2
    return None


def mirrored_wrong(paper):
    """The number of the first wrong clause of a paper of a mirror, or None."""
    _, one, other, pairs = paper
    if not is_list_of(pairs, lambda thing: is_pair(one[0], thing)) or (one, other) not in pairs:
        return 0
    # All returns at letters are asked for, also where an earlier pair is wrong.
    behind = {}
    for pair in pairs:
        for doing in pair:
            if doing not in behind:
                behind[doing] = rounds_behind(doing)
    together = {pair: True for pair in pairs}
    if not all([can_be_paired(behind[first], behind[second], together) for first, second in pairs]):
        return 1
    return None


def is_pair(letters, thing):
    """Whether it is a tuple of two doings of so many letters."""
    return is_tuple_of(thing, 2, 2) and all([is_doing_of(letters, part) for part in thing])


def rounds_behind(doing):
    """For each round of letters a tuple (its length, the return at its least letter)."""
    return [(len(round_from(doing, letter)), return_from(doing, letter)) for letter in least_letters(doing)]


def can_be_paired(ones, others, together):
    """Whether the rounds can be paired, equally long ones, so that the returns behind them stand together."""
    if len(ones) != len(others):
        return False
    return any([are_paired(ones, ordered, together) for ordered in permutations(others)])


def are_paired(ones, others, together):
    """Whether the rounds are paired so, each with the one in the same place."""
    return all([
        many == length and (one, other) in together for (many, one), (length, other) in zip(ones, others)
    ])


def parted_wrong(paper):
    """The number of the first wrong clause of a paper of parted trees, or None."""
    _, one, other, number = paper
    if not is_within(number, 1, LONGEST_WORD):
        return 0
    _, graph, beside = both_graphs(one, other)
    classes = classes_cut(graph, number)
    if classes[0] == classes[beside]:
        return 1
    classes = classes_cut(graph, number - 1)
    if classes[0] != classes[beside]:
        return 2
    return None


def power_wrong(paper):
    """The number of the first wrong clause of a paper of rings, or None."""
    _, doing, rings = paper
    letters, states = doing
    if not is_list_of(rings, lambda thing: is_with_ring(letters, thing)) or not rings:
        return 0
    come_to = []
    at = 0
    for lead, ring in rings:
        at = state_after(states, at, lead)
        if is_idle_at(states, at) or state_after(states, at, ring) != at:
            return 1
        come_to.append(at)
    for place, state in enumerate(come_to):
        ways = ways_from(states, state)
        if any([ahead in ways for ahead in come_to[:place]]):
            return 2
    return None


def is_with_ring(letters, thing):
    """Whether it is a tuple of two words, the second not empty."""
    return is_tuple_of(thing, 2, 2) and all([is_word_of(letters, part) for part in thing]) and len(thing[1]) > 0


def doubles_wrong(paper):
    """The number of the first wrong clause of a paper of two ways round, or None."""
    _, (letters, states), lead, one, other = paper
    if not all([is_word_of(letters, word) for word in (lead, one, other)]):
        return 0
    at = state_after(states, 0, lead)
    if is_idle_at(states, at) or any([state_after(states, at, ring) != at for ring in (one, other)]):
        return 1
    if one == other[:len(one)] or other == one[:len(other)]:
        return 2
    return None


def core_wrong(paper):
    """The number of the first wrong clause of a paper of a core, or None."""
    _, machine, listed = paper
    letters = machine[0]
    if not is_list_of(listed, lambda thing: is_doing_of(letters, thing)):
        return 0
    if len(set(listed)) != len(listed) or listed[:1] != [idle_of(letters)]:
        return 0
    signs = sign_doings(machine)
    # Those of each but the last are asked for, also where an earlier one is wrong.
    behind = [lasting_products(signs, one) for one in listed[:-1]]
    found = {}
    for at, following in enumerate(listed[1:]):
        for one in behind[at]:
            found[one] = True
        if following not in found:
            return 1
    behind.append(lasting_products(signs, listed[-1]))
    if not all([one in listed for ones in behind for one in ones]):
        return 2
    return None


def lasting_products(signs, doing):
    """All doings that stand behind words of any length of the doing done and then a sign's: a list."""
    return [one for done in products(signs, doing) for one in lasting(done)]


CLAUSES = {
    "order": order_wrong,
    "none": none_wrong,
    "mirrored": mirrored_wrong,
    "parted": parted_wrong,
    "power": power_wrong,
    "doubles": doubles_wrong,
    "core": core_wrong,
}
PARTS = {"order": 5, "none": 4, "mirrored": 4, "parted": 4, "power": 3, "doubles": 5, "core": 3}


def need_paper(thing):
    """Refuse what is no paper."""
    # What is no text may be a list, which is no key.
    if not isinstance(thing, tuple) or not thing or not isinstance(thing[0], str):
        raise NoPaper("a paper is a tuple that begins with a text")
    if thing[0] not in PARTS or PARTS[thing[0]] != len(thing):
        raise NoPaper("a paper begins with one of seven words, and has as many parts as this asks for")


def need_of_whom(paper):
    """Refuse a paper of what is no doing or no machine, or of two doings that don't go together."""
    word, one, other = paper[:3]
    if word == "core":
        need_machine(one)
        return
    need_doing(one)
    if word in ("mirrored", "parted"):
        need_doing(other)
        need_fit(one, other)


def look(paper):
    """("right",), or ("wrong", the number of the first clause that isn't so)."""
    need_paper(paper)
    need_of_whom(paper)
    first_wrong = CLAUSES[paper[0]]
    number = first_wrong(paper)
    if number is None:
        return ("right",)
    return ("wrong", number)
