"""Forms of what is handed in: numbers, SIDES, CROSSINGS, tuples for lists."""


def is_number(thing):
    """Whether thing is a number: True and False are none."""
    return isinstance(thing, int) and not isinstance(thing, bool)


def is_below(thing, many):
    """Whether thing is one of the numbers from 0 to many, without many itself."""
    return is_number(thing) and 0 <= thing < many


def is_side(thing):
    """Whether thing is a SIDE."""
    return is_below(thing, 4)


def are_sides(thing, many):
    """Whether thing is a tuple of so many SIDES."""
    return isinstance(thing, tuple) and len(thing) == many and all([is_side(own) for own in thing])


def are_numbers(thing, many):
    """Whether thing is a tuple of so many numbers."""
    return isinstance(thing, tuple) and len(thing) == many and all([is_number(own) for own in thing])


def is_crossing(thing, many):
    """Whether thing is a CROSSING of one of so many FIELDS."""
    return isinstance(thing, tuple) and len(thing) == 2 and is_below(thing[0], many) and is_side(thing[1])


def as_tuples(thing, lengths):
    """thing with tuples in the place of lists, as deep as lengths reach; None stands for any length.

    What has another length than stated stays as it is: it fits no form that is asked for here,
    so that it need not be read to its end.
    """
    if not lengths or not isinstance(thing, (list, tuple)):
        return thing
    if lengths[0] is not None and len(thing) != lengths[0]:
        return thing
    return tuple([as_tuples(own, lengths[1:]) for own in thing])
