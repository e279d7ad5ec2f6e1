"""Sets of deeds that are closed and in which each deed fits its past."""

from quillmoot.clocks import is_clock
from quillmoot.deeds import id_of
from quillmoot.errors import InvalidClock, InvalidHistory, Undefined, Unlike
from quillmoot.fitting import book_of, fits_book
from quillmoot.forms import is_deed_id


def checked(history):
    """The book of a history; raises InvalidHistory with what was handed in if it is none."""
    book = book_of(history)
    if book is None:
        raise InvalidHistory(history)
    return book


def check_deed(book, deed_id):
    """Raise Undefined unless there is a deed of this id."""
    if not is_deed_id(deed_id) or deed_id not in book.deeds:
        raise Undefined("deed")


def check_cut(book, clock):
    """Raise InvalidClock unless any value is a clock whose deeds are all there and closed."""
    if not is_clock(clock) or not book.is_cut(clock):
        raise InvalidClock(clock)


def is_history(value):
    """Whether any value is a history, in any order."""
    return book_of(value) is not None


def history_of(deeds):
    """These deeds in turn."""
    book = checked(deeds)
    return book.in_turn(book.clock)


def clock_of(history):
    """How many deeds of each hand there are."""
    return checked(history).clock


def time_of(history, deed_id):
    """The time of a deed: 1, or 1 more than the greatest one of its past."""
    book = checked(history)
    check_deed(book, deed_id)
    return book.turn_of(deed_id)[0]


def past_of(history, deed_id):
    """The deeds that a deed has seen, in turn."""
    book = checked(history)
    check_deed(book, deed_id)
    return book.in_turn(book.seen_of(deed_id))


def is_cut(history, clock):
    """Whether any value is a clock whose deeds are all there and closed."""
    book = checked(history)
    return is_clock(clock) and book.is_cut(clock)


def part(history, clock):
    """The deeds that a cut counts, in turn."""
    book = checked(history)
    check_cut(book, clock)
    return book.in_turn(clock)


def united(history, other):
    """The deeds of both, in turn."""
    book = checked(history)
    added = checked(other)
    for deed in added.in_turn(added.clock):
        deed_id = id_of(deed)
        if deed_id not in book.deeds:
            # what is ahead of it by turn is in the book by now, so its past is
            book.enter(deed)
        elif book.deeds[deed_id] != deed:
            raise Unlike(deed)
    return book.in_turn(book.clock)


def fits(history, deed):
    """Whether a deed fits this history."""
    return fits_book(checked(history), deed)
