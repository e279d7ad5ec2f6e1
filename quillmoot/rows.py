"""What is shown of the row of a block."""

from quillmoot.errors import InvalidNumber
from quillmoot.forms import is_number
from quillmoot.histories import checked
from quillmoot.shown import letter_at, shown_row, text_of
from quillmoot.signs import check_sign, checked_block


def shown_signs(history, block):
    """The shown signs of a block in their row."""
    book = checked_block(history, block)
    return tuple(shown_row(book, block))


def block_text(history, block):
    """The shown signs of a block as one string."""
    book = checked_block(history, block)
    return text_of(book, shown_row(book, block))


def letter_of(history, sign):
    """The letter or blank that a sign is, whether it is shown or not."""
    book = checked(history)
    check_sign(book, sign)
    return letter_at(book, sign)


def place_of(history, sign):
    """How many shown signs of its block stand ahead of a sign."""
    book = checked(history)
    check_sign(book, sign)
    block = book.trees.block_of[sign]
    row = book.trees.row(block)
    ahead = {other: True for other in row[:row.index(sign)]}
    return len([other for other in shown_row(book, block) if other in ahead])


def sign_at(history, block, at):
    """The shown sign of this number."""
    book = checked_block(history, block)
    shown = shown_row(book, block)
    if not is_number(at) or at >= len(shown):
        raise InvalidNumber(at)
    return shown[at]
