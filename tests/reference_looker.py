"""What is told of a paper, by the words of the document and the slow reference alone."""

from homerounds.doings import is_doing
from homerounds.errors import NoDoing, NoFit, NoMachine, NoPaper, TooMany
from homerounds.machines import is_machine
from tests import reference

PARTS = {"order": 5, "none": 4, "mirrored": 4, "parted": 4, "power": 3, "doubles": 5, "core": 3}


class NotTold(Exception):
    """A clause asks for what isn't held or told."""


def need(thing):
    if thing is None:
        raise NotTold
    return thing


def is_number(thing):
    return type(thing) is int


def is_word(letters, thing):
    return type(thing) is tuple and len(thing) <= 200 and all(is_number(one) and 0 <= one < letters for one in thing)


def is_doing_of(letters, thing):
    return is_doing(thing) and thing[0] == letters


def is_pair(thing):
    return type(thing) is tuple and len(thing) == 2


def look(paper):
    """What is told, or the class of the refusal."""
    if type(paper) is not tuple or not paper or type(paper[0]) is not str or PARTS.get(paper[0]) != len(paper):
        return NoPaper
    if paper[0] == "core":
        if not is_machine(paper[1]):
            return NoMachine
    elif not is_doing(paper[1]):
        return NoDoing
    if paper[0] in ("mirrored", "parted"):
        if not is_doing(paper[2]):
            return NoDoing
        if paper[1][0] != paper[2][0]:
            return NoFit
    try:
        for number, clause in enumerate(CLAUSES[paper[0]]):
            if not clause(*paper[1:]):
                return ("wrong", number)
    except NotTold:
        return TooMany
    return ("right",)


def order_list(g, number, listed, words):
    return is_number(number) and type(listed) is list and all(
        is_pair(one) and is_doing_of(g[0], one[0]) and is_number(one[1]) and one[1] >= 1 for one in listed
    ) and any(one == (g, number) for one in listed)


def order_closed(g, number, listed, words):
    asked = [
        (many, len(reference.letters_round(one, letter)), need(reference.return_at(one, letter)))
        for one, many in listed for letter in range(g[0])
    ]
    return all(any(beside == behind and many % (times * other) == 0 for beside, other in listed)
               for many, times, behind in asked)


def order_words(g, number, listed, words):
    if type(words) is not list or not all(is_word(g[0], word) for word in words):
        return False
    return reference.common([need(home(g, word)) for word in words]) == number


def home(g, word):
    """The word's home, None where the return at one of its beginnings isn't held."""
    along = reference.returns_along(g, word[:-1])
    if along[-1] is None:
        return None
    told = 1
    for ahead, letter in zip(along, word):
        told *= len(reference.letters_round(ahead, letter))
    return told


def none_words(g, u, v):
    return is_word(g[0], u) and is_word(g[0], v) and len(v) > 0


def none_returns(g, u, v):
    along = reference.returns_along(g, u + v)
    need(along[-1])
    return along[-1] == along[len(u)]


def none_longer(g, u, v):
    along = reference.returns_along(g, u + v)
    return any(len(reference.letters_round(along[len(u) + at], letter)) > 1 for at, letter in enumerate(v))


def mirrored_list(g, h, pairs):
    return type(pairs) is list and all(
        is_pair(one) and all(is_doing_of(g[0], doing) for doing in one) for one in pairs
    ) and (g, h) in pairs


def mirrored_paired(g, h, pairs):
    for pair in pairs:
        for doing in pair:
            for letters in reference.letter_rounds(doing):
                need(reference.return_at(doing, letters[0]))
    return all(reference.can_be_paired(one, other, pairs) for one, other in pairs)


def parted_number(g, h, number):
    return is_number(number) and 1 <= number <= 200


def parted_unlike(g, h, number):
    need(reference.returns(g))
    need(reference.returns(h))
    return reference.tree_number(g, number) != reference.tree_number(h, number)


def parted_alike_ahead(g, h, number):
    return reference.tree_number(g, number - 1) == reference.tree_number(h, number - 1)


def power_list(g, rings):
    return type(rings) is list and len(rings) > 0 and all(
        is_pair(one) and is_word(g[0], one[0]) and is_word(g[0], one[1]) and len(one[1]) > 0 for one in rings
    )


def ring_states(g, rings):
    words, told = (), []
    for lead, _ in rings:
        words += lead
        told.append(reference.state_at(g, words))
    return told


def leads_back(g, at, ring):
    told = at
    for letter in ring:
        told = g[1][told][1][letter]
    return told == at


def is_live(g, at):
    return not reference.is_idle(reference.state_doing(g, at))


def power_rings(g, rings):
    return all(is_live(g, at) and leads_back(g, at, ring) for at, (_, ring) in zip(ring_states(g, rings), rings))


def power_apart(g, rings):
    states, led_to = ring_states(g, rings), reference.led_to(g)
    return not any((states[late], states[early]) in led_to for late in range(len(states)) for early in range(late))


def doubles_words(g, lead, one, other):
    return all(is_word(g[0], word) for word in (lead, one, other))


def doubles_rings(g, lead, one, other):
    at = reference.state_at(g, lead)
    return is_live(g, at) and leads_back(g, at, one) and leads_back(g, at, other)


def doubles_apart(g, lead, one, other):
    return one[:len(other)] != other and other[:len(one)] != one


def core_list(machine, listed):
    return type(listed) is list and all(is_doing_of(machine[0], one) for one in listed) and all(
        one not in listed[:at] for at, one in enumerate(listed)
    ) and len(listed) > 0 and listed[0] == reference.idle(machine[0])


def all_lasting(machine, one):
    return [
        behind for sign in reference.sign_doings(machine)
        for behind in reference.lasting(need(reference.joined(one, sign)))
    ]


def core_grown(machine, listed):
    asked = [all_lasting(machine, one) for one in listed[:-1]]
    return all(any(one in ahead for ahead in asked[:at]) for at, one in enumerate(listed) if at > 0)


def core_closed(machine, listed):
    asked = [all_lasting(machine, one) for one in listed]
    return all(one in listed for behind in asked for one in behind)


CLAUSES = {
    "order": (order_list, order_closed, order_words),
    "none": (none_words, none_returns, none_longer),
    "mirrored": (mirrored_list, mirrored_paired),
    "parted": (parted_number, parted_unlike, parted_alike_ahead),
    "power": (power_list, power_rings, power_apart),
    "doubles": (doubles_words, doubles_rings, doubles_apart),
    "core": (core_list, core_grown, core_closed),
}
