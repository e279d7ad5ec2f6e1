"""Snapshots: texts from which a desk can begin, without the deeds that are settled for all."""

from quillmoot.bases import base_of, kept_rows
from quillmoot.desks import Desk
from quillmoot.errors import InvalidText
from quillmoot.histories import checked
from quillmoot.keeping import kept_book, kept_text
from quillmoot.standing import is_seen
from quillmoot.sums import sum_of

SUM_START = 7


def base_clock(history):
    """The clock of the base: the first deeds in turn that each hand knows to be settled."""
    return base_of(checked(history))


def rest_of(history):
    """The deeds behind the base, in turn."""
    book = checked(history)
    base = base_of(book)
    return tuple([deed for deed in book.in_turn(book.clock) if not is_seen(base, deed)])


def checked_text(book):
    """What is kept of a book, and its check."""
    text = kept_text(book)
    return f"{text} {sum_of(SUM_START, text)}"


def snapshot(history):
    """The text from which a desk can begin that behaves as one with all these deeds."""
    return checked_text(checked(history))


def desk_of(text, hand):
    """A desk of this hand that begins with a snapshot."""
    kept, blank, check = text.rpartition(" ")
    if blank == "" or check != str(sum_of(SUM_START, kept)):
        raise InvalidText(text, 0)
    desk = Desk(hand)
    desk.begin(kept_book(kept))
    return desk


def desk_snapshot(desk):
    """The snapshot of the deeds that the clock of a desk counts."""
    return checked_text(desk.book)


def kept_signs(desk):
    """For each block, ascending, how many of its signs are not let go."""
    return tuple([(block, len(row)) for block, row in kept_rows(desk.book).items()])
