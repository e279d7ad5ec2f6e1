"""Which deeds of a history count, and why others do not."""

from quillmoot.histories import check_deed, checked
from quillmoot.standing import does_count, first_bar, first_settle, is_late_turn, reason_against, undoing


def checked_deed(history, deed_id):
    """The book of a history that has a deed of this id."""
    book = checked(history)
    check_deed(book, deed_id)
    return book


def is_barred(history, deed_id):
    """Whether a bar that no let has ended before this deed keeps it out."""
    book = checked_deed(history, deed_id)
    return first_bar(book, book.deeds[deed_id]) is not None


def is_settled(history, deed_id):
    """Whether a settle has this deed in its past."""
    book = checked_deed(history, deed_id)
    return first_settle(book, deed_id, book.clock) is not None


def is_late(history, deed_id):
    """Whether this is an undo or redo that came behind a settle of what it is of."""
    book = checked_deed(history, deed_id)
    hand, _, _, act = book.deeds[deed_id]
    return act[0] in ("undo", "redo") and is_late_turn(book, book.deeds[deed_id], (hand, act[1]))


def is_undone(history, deed_id):
    """Whether the last undo or redo of this deed that is neither barred nor late is an undo."""
    book = checked_deed(history, deed_id)
    return undoing(book, deed_id) is not None


def counts(history, deed_id):
    """Whether this deed is neither barred nor undone."""
    book = checked_deed(history, deed_id)
    return does_count(book, deed_id)


def why_not(history, deed_id):
    """The id of the bar or undo because of which this deed does not count, or None."""
    book = checked_deed(history, deed_id)
    return reason_against(book, deed_id)


def final(history, deed_id):
    """Whether it is settled for good whether this deed counts."""
    return is_settled(history, deed_id)
