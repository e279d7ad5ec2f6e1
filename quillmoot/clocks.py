"""Clocks: how many deeds of each of the four hands."""

NOUGHT = (0, 0, 0, 0)


def is_clock(value):
    """Whether any value is a tuple of four numbers."""
    if not isinstance(value, tuple) or len(value) != 4:
        return False
    for many in value:
        if not isinstance(many, int) or many < 0 or many is True or many is False:
            return False
    return True


def joined(a, b):
    """The clock of the greater numbers of both."""
    return tuple([max(x, y) for x, y in zip(a, b)])


def met(a, b):
    """The clock of the lesser numbers of both."""
    return tuple([min(x, y) for x, y in zip(a, b)])


def is_within(a, b):
    """Whether no number of a is above that of b."""
    return a[0] <= b[0] and a[1] <= b[1] and a[2] <= b[2] and a[3] <= b[3]


def order_of(a, b):
    """How a stands to b: "same", "before", "behind" or "apart"."""
    if a == b:
        return "same"
    if is_within(a, b):
        return "before"
    if is_within(b, a):
        return "behind"
    return "apart"


def stepped(clock, hand, number):
    """The clock that counts so many deeds of this hand, and of the others as many as a clock does."""
    return clock[:hand - 1] + (number,) + clock[hand:]
