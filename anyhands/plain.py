"""What every file asks of plain values: which are numbers, and tuples for lists."""


def is_number(thing):
    """Whether thing is an integer that is not True or False."""
    return isinstance(thing, int) and not isinstance(thing, bool)


def is_number_pair(thing):
    """Whether thing is a tuple of just two numbers."""
    return isinstance(thing, tuple) and len(thing) == 2 and is_number(thing[0]) and is_number(thing[1])


def with_tuples(value):
    """The value with a tuple for each list in it, at any depth."""
    if isinstance(value, (list, tuple)):
        return tuple([with_tuples(part) for part in value])
    return value
