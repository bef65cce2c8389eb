"""What anything that is handed in may be: whole numbers and tuples of them."""

from homerounds.errors import NoNumber


def is_whole(thing):
    """Whether it is an int that is no truth."""
    return isinstance(thing, int) and not isinstance(thing, bool)


def is_within(thing, low, high):
    """Whether it is a whole number from low to high."""
    return is_whole(thing) and low <= thing <= high


def is_tuple_of(thing, fewest, most):
    """Whether it is a tuple of fewest to most parts."""
    return isinstance(thing, tuple) and fewest <= len(thing) <= most


def are_within(things, low, high):
    """Whether each of the things is a whole number from low to high."""
    return all([is_within(thing, low, high) for thing in things])


def need_number(thing, low, high):
    """Refuse what is no whole number from low to high."""
    if not is_within(thing, low, high):
        raise NoNumber("no whole number of those that are asked for")
