"""What is raised where something is refused.

The texts never show what was handed in: that may be anything, also a number
too long to be written out.
"""


class TurnError(ValueError):
    """Something was refused."""


class NoName(TurnError):
    """What was handed in is no name, or no name that stands."""

    def __init__(self, name):
        TurnError.__init__(self, "this is no name, or none that stands")
        self.name = name


class Standing(TurnError):
    """A name that was to be new stands already."""

    def __init__(self, name):
        TurnError.__init__(self, "this name stands already")
        self.name = name


class Full(TurnError):
    """As many stand as there may be."""

    def __init__(self, most):
        TurnError.__init__(self, "as many stand as there may be")
        self.most = most


class NoMark(TurnError):
    """What was handed in is no mark that stands."""

    def __init__(self, number):
        TurnError.__init__(self, "no such mark stands")
        self.number = number


class NoMachine(TurnError):
    """What was handed in is no machine."""


class NoState(TurnError):
    """What was handed in is no state of the machine."""


class NoWord(TurnError):
    """What was handed in is no word."""


class NoLetter(TurnError):
    """What was handed in is no letter."""


class NoRow(TurnError):
    """What was handed in is no row of the machine."""


class NoDoing(TurnError):
    """What was handed in is no held doing."""


class NoNumber(TurnError):
    """What was handed in is no number of those that are asked for."""


class NoFit(TurnError):
    """What was handed in doesn't go together."""


class NoMirror(TurnError):
    """The two doings aren't mirrored."""


class NoPaper(TurnError):
    """What was handed in is no paper."""


class TooMany(TurnError):
    """There are more of something than are held or told."""


class TooLong(TurnError):
    """A word or a row would grow longer than it may."""
