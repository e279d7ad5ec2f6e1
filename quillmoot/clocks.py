"""Clocks: how many deeds of each of the four hands."""

from quillmoot.forms import is_number

NOUGHT = (0, 0, 0, 0)


def is_clock(value):
    """Whether any value is a tuple of four numbers."""
    if not isinstance(value, tuple) or len(value) != 4:
        return False
    return all([is_number(many) for many in value])


def joined(a, b):
    """The clock of the greater numbers of both."""
    return tuple([max(x, y) for x, y in zip(a, b)])


def met(a, b):
    """The clock of the lesser numbers of both."""
    return tuple([min(x, y) for x, y in zip(a, b)])


def is_within(a, b):
    """Whether no number of a is above that of b."""
    return all([x <= y for x, y in zip(a, b)])


def order_of(a, b):
    """How a stands to b: "same", "before", "behind" or "apart"."""
    if a == b:
        return "same"
    if is_within(a, b):
        return "before"
    if is_within(b, a):
        return "behind"
    return "apart"
