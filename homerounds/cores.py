"""The core of a machine: the doings into which all rows come behind long words."""

from homerounds.doings import doing_of, idle_of, join, state_doing
from homerounds.errors import TooMany
from homerounds.machines import need_machine
from homerounds.paths import all_ways
from homerounds.rows import need_row
from homerounds.tables import back_states, least_from

MOST_IN_CORE = 16


def sign_doings(machine):
    """The doings of the machine's states, there and back, each once."""
    letters, states = machine
    told = []
    for table in (states, back_states(states)):
        for at in range(len(states)):
            one = (letters, least_from(table, at))
            if one not in told:
                told.append(one)
    return told


def products(signs, doing):
    """The doing done and then each of the signs' doings: a list; TooMany where one isn't held."""
    return [join(doing, sign) for sign in signs]


def lasting(doing):
    """The doings that stand behind words of any length, however long, of the doing."""
    states = doing[1]
    ways = all_ways(states)
    ringed = [at for at, (_, nexts) in enumerate(states) if any([at in ways[following] for following in nexts])]
    return [state_doing(doing, at) for at in range(len(states)) if any([at in ways[ring] for ring in ringed])]


def core(machine):
    """All doings that stand behind words as long as one likes, of some one row: a rising list."""
    need_machine(machine)
    return core_of(machine)


def core_of(machine):
    """The core, grown from the idle doing.

    A row of one sign more does, behind long words, one of the core's and then a state's doing: so what lasts of
    such products is all there is. And it is in the core, as one of the core's is a row's doing.
    """
    signs = sign_doings(machine)
    told = [idle_of(machine[0])]
    at = 0
    while at < len(told):
        for done in products(signs, told[at]):
            for one in lasting(done):
                if one not in told:
                    told.append(one)
            if len(told) > MOST_IN_CORE:
                raise TooMany("this machine's core has more than 16 doings")
        at += 1
    return sorted(told)


def depth(machine, row):
    """The least length such that behind all words of it the row does one of the core's."""
    need_machine(machine)
    need_row(machine, row)
    held = core_of(machine)
    doing = doing_of(machine, row)
    inside = [state_doing(doing, at) in held for at in range(len(doing[1]))]
    length = 0
    standing = [0]
    # Behind one of the core's stand the core's alone, so a length once come to holds for longer words too.
    while not all([inside[at] for at in standing]):
        standing = sorted(set([following for at in standing for following in doing[1][at][1]]))
        length += 1
    return length
