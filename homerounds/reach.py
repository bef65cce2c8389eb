"""What is come to from a start, step by step."""


def first_ways(start, steps):
    """A dict: for each thing that is come to the first way to it, a tuple of the steps' numbers.

    steps tells of a thing the list of those that are one step on. The things stand in the order in which
    they are come to first by ways, shorter ones ahead, equally long ones rising.
    """
    ways = {start: ()}
    waiting = [start]
    at = 0
    while at < len(waiting):
        thing = waiting[at]
        for number, following in enumerate(steps(thing)):
            if following not in ways:
                ways[following] = (*ways[thing], number)
                waiting.append(following)
        at += 1
    return ways
