"""The house: a machine as it stands, rows of it by names, and marks to go back to."""

from homerounds.doings import doing_of, first_unlike
from homerounds.errors import Full, NoMark, NoName, Standing, TooLong
from homerounds.homes import home
from homerounds.lively import kind
from homerounds.machines import need_letter, need_machine, need_state, need_word
from homerounds.mirrors import mirrored
from homerounds.orders import order
from homerounds.rows import LONGEST_ROW, need_row, plain, row_back
from homerounds.things import is_within

LONGEST_NAME = 8
MOST_NAMES = 12
MOST_MARKS = 6
NAME_LETTERS = "abcdefghijklmnopqrstuvwxyz"


def is_name(thing):
    """Whether it is a text of one to eight letters from a to z."""
    if not isinstance(thing, str) or not 1 <= len(thing) <= LONGEST_NAME:
        return False
    return all([sign in NAME_LETTERS for sign in thing])


class House:
    """A machine, rows by names, and marks."""

    def __init__(self, machine):
        need_machine(machine)
        self._machine = machine
        self._rows = {}
        self._marked = []

    def _need_new(self, name):
        """Refuse what is no name, and a name that stands."""
        if not is_name(name):
            raise NoName(name)
        if name in self._rows:
            raise Standing(name)

    def _need_name(self, name):
        """Refuse what is no name that stands."""
        # What is no text may be a list, which is no key.
        if not isinstance(name, str) or name not in self._rows:
            raise NoName(name)

    def _keep(self, name, row):
        """Put the row by the name; Full where twelve names stand."""
        if len(self._rows) >= MOST_NAMES:
            raise Full(MOST_NAMES)
        self._rows[name] = row

    def _put_state(self, state, turns, nexts):
        """Put this state in the place of the machine's."""
        letters, states = self._machine
        self._machine = (letters, (*states[:state], (tuple(turns), tuple(nexts)), *states[state + 1:]))

    def put(self, name, row):
        """Put a row by a new name."""
        self._need_new(name)
        need_row(self._machine, row)
        self._keep(name, row)

    def join(self, name, one, other):
        """Put the one name's row and then the other's by a new name."""
        self._need_new(name)
        self._need_name(one)
        self._need_name(other)
        row = self._rows[one] + self._rows[other]
        if len(row) > LONGEST_ROW:
            raise TooLong("a row has at most 16 signs")
        self._keep(name, row)

    def turn_back(self, name, one):
        """Put the name's row back, plain, by a new name."""
        self._need_new(name)
        self._need_name(one)
        self._keep(name, plain(self._machine, row_back(self._machine, self._rows[one])))

    def take_out(self, name):
        """Take a name and its row out."""
        self._need_name(name)
        del self._rows[name]

    def exchange(self, state, one, other):
        """Of a state exchange the letters into which two letters are turned."""
        need_state(self._machine, state)
        need_letter(self._machine[0], one)
        need_letter(self._machine[0], other)
        turns, nexts = self._machine[1][state]
        changed = list(turns)
        changed[one] = turns[other]
        changed[other] = turns[one]
        self._put_state(state, changed, nexts)

    def lead(self, state, letter, *, next_state):
        """Lead a state by a letter to another next state."""
        need_state(self._machine, state)
        need_letter(self._machine[0], letter)
        need_state(self._machine, next_state)
        turns, nexts = self._machine[1][state]
        changed = list(nexts)
        changed[letter] = next_state
        self._put_state(state, turns, changed)

    def mark(self):
        """Make a mark; told is its number."""
        if len(self._marked) >= MOST_MARKS:
            raise Full(MOST_MARKS)
        self._marked.append((self._machine, dict(self._rows)))
        return len(self._marked) - 1

    def back(self, number):
        """Make all as it was at the mark; the marks behind it are gone."""
        if not is_within(number, 0, len(self._marked) - 1):
            raise NoMark(number)
        del self._marked[number + 1:]
        self._machine = self._marked[number][0]
        self._rows = dict(self._marked[number][1])

    def machine(self):
        """The machine as it stands."""
        return self._machine

    def names(self):
        """The names that stand, rising."""
        return sorted(self._rows)

    def marks(self):
        """The numbers of the marks that stand, rising."""
        return list(range(len(self._marked)))

    def row(self, name):
        """The name's row."""
        self._need_name(name)
        return self._rows[name]

    def doing(self, name):
        """The doing of the name's row."""
        self._need_name(name)
        return doing_of(self._machine, self._rows[name])

    def order(self, name):
        """The order of the doing of the name's row."""
        return order(self.doing(name))

    def home(self, name, word):
        """The word's home under the doing of the name's row."""
        self._need_name(name)
        need_word(self._machine[0], word)
        return home(self.doing(name), word)

    def unlike(self, one, other):
        """The first word that the doings of the two names' rows turn unlike, or None."""
        self._need_name(one)
        self._need_name(other)
        return first_unlike(self.doing(one), self.doing(other))

    def mirrored(self, one, other):
        """Whether the doings of the two names' rows are mirrored, as the function tells it."""
        self._need_name(one)
        self._need_name(other)
        return mirrored(self.doing(one), self.doing(other))

    def kind(self, name):
        """The kind of the doing of the name's row."""
        return kind(self.doing(name))
