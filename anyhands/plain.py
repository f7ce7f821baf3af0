"""What every file asks of plain values: which are numbers, and tuples for lists."""


def is_number(thing):
    """Whether thing is an integer that is not True or False."""
    return isinstance(thing, int) and not isinstance(thing, bool)


def is_number_pair(thing):
    """Whether thing is a tuple of just two numbers."""
    return isinstance(thing, tuple) and len(thing) == 2 and is_number(thing[0]) and is_number(thing[1])


def is_number_row(many, thing):
    """Whether thing is a tuple of so many numbers, none below 0."""
    if not isinstance(thing, tuple) or len(thing) != many:
        return False
    return all([is_number(part) and part >= 0 for part in thing])


def with_tuples(value):
    """The value with a tuple for each list in it, at any depth."""
    if isinstance(value, (list, tuple)):
        return tuple([with_tuples(part) for part in value])
    return value


def changed_at(numbers, place, change):
    """The tuple of the numbers, the one at this place so much greater."""
    return tuple([number + change if at == place else number for at, number in enumerate(numbers)])


def rounded_up(number, share):
    """How many shares the number has, the last one perhaps not whole."""
    return -(-number // share)
