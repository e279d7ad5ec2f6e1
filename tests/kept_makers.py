"""Histories told by hand of which something is let go, or kept for some reason; and desks that have them."""

from quillmoot.desks import Desk
from tests.makers import Table

ROOT = (0, 0)


def desk_with(hand, deeds):
    """A desk that was given these deeds."""
    desk = Desk(hand)
    for deed in deeds:
        desk.take(deed)
    return desk


def gone_in_base():
    """One typed abcdef; ef was erased and let go, and all of that is in the base."""
    table = Table()
    table.write(1, ROOT, 0, "abcdef")
    table.meet()
    table.do(2, "erase", ((1, 1, 4), (1, 1, 5)))
    table.round()
    table.do(1, "settle")
    table.round()
    table.round()
    return table


def passed_in_base():
    """As gone_in_base, a round earlier: ef is passed, and not let go."""
    table = Table()
    table.write(1, ROOT, 0, "abcdef")
    table.meet()
    table.do(2, "erase", ((1, 1, 4), (1, 1, 5)))
    table.round()
    table.do(1, "settle")
    table.round()
    return table


def shut_in_base():
    """Of abcdefgh in the base all but g are erased and shut, and all but h are kept from being passed.

    A mark on ab counts, a note on cd is undone, and behind ef somebody typed "xy" that is shown.
    """
    table = Table()
    table.write(1, ROOT, 0, "abcdefgh")
    table.meet()
    table.do(2, "mark", (1, 1, 0), (1, 1, 1), "bold", "on")
    table.do(3, "note", (1, 1, 2), (1, 1, 3), "so")
    table.do(4, "write", ROOT, (1, 1, 5), (1, 1, 6), "xy")
    table.meet()
    table.do(3, "undo", 1)
    table.do(2, "erase", tuple((1, 1, k) for k in (0, 1, 2, 3, 4, 5, 7)))
    table.meet()
    table.do(1, "settle")
    table.round()
    table.round()
    return table


def late_turns():
    """Behind the base stand undos of deeds in it that are late, one of them redone, and one of a deed behind it."""
    table = Table()
    table.write(1, ROOT, 0, "abc")
    table.meet()
    table.write(2, ROOT, 0, "xy")
    table.do(2, "erase", ((1, 1, 0),))
    table.meet()
    table.do(1, "settle")
    table.do(2, "undo", 1)
    table.do(2, "undo", 2)
    table.do(2, "redo", 2)
    table.write(2, ROOT, 2, "z")
    table.meet()
    table.do(2, "undo", 6)
    table.round()
    table.round()
    return table


def rulings():
    """Hand 3 is barred in the base, and let behind it; what hand 2 did in the base is barred by a bar behind it."""
    table = Table()
    table.do(1, "bar", 3)
    for hand in (3, 2, 4):
        table.do(hand, "write", ROOT, None, None, "abc"[:hand - 1])
    table.do(4, "say")
    table.learn(1, 3)
    table.do(1, "say")
    table.do(1, "bar", 2)
    table.learn(1, 2)
    table.do(1, "settle")
    table.meet()
    table.do(1, "let", 3)
    table.round()
    return table


def barred():
    """Hands 2 and 3 are barred in the base, and hand 2 is let in it."""
    table = Table()
    table.write(1, ROOT, 0, "abc")
    table.do(1, "bar", 2)
    table.do(1, "bar", 3)
    table.do(1, "let", 2)
    table.meet()
    table.do(1, "settle")
    table.round()
    return table


def stray(*acts):
    """Hands 1 to 3 do these acts and settle them, without a word of what hand 4 said first; then all hear of all."""
    table = Table()
    table.do(4, "say")
    for hand, *act in acts:
        table.meet(1, 2, 3)
        table.do(hand, *act)
    return settled(table)


def settled(table):
    """All but hand 4 hear of all, and one settles it; then all hear of it."""
    table.meet(1, 2, 3)
    table.do(1, "settle")
    table.round()
    table.round()
    return table


def gone_in_rest():
    """A write is let go that stands behind the base, as a deed ahead of it by turn is not settled."""
    return stray((1, "say"), (2, "write", ROOT, None, None, "abc"), (2, "undo", 1))


def partly_gone_in_rest():
    """Of a write behind the base the last two signs are let go."""
    return stray((1, "say"), (2, "write", ROOT, None, None, "abc"), (3, "erase", ((2, 1, 1), (2, 1, 2))))


def right_place_gone():
    """The right place of a write behind the base is let go and of the base, its left one is not."""
    table = Table()
    table.do(1, "write", ROOT, None, None, "a")
    table.do(2, "write", ROOT, None, None, "b")
    table.do(4, "say")
    table.meet(1, 2, 3)
    table.do(3, "write", ROOT, (1, 1, 0), (2, 1, 0), "cd")
    table.meet(1, 2, 3)
    table.do(2, "erase", ((2, 1, 0),))
    return settled(table)


KEPT = (gone_in_base, passed_in_base, shut_in_base, late_turns, rulings, gone_in_rest, partly_gone_in_rest, right_place_gone,
        barred)
