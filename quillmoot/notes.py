"""The notes on the text of a block."""

from quillmoot.marking import notes_at
from quillmoot.signs import checked_block
from quillmoot.standing import counting_deeds


def notes_of(history, block):
    """The notes on a block that count, in turn: for each its id, the places in the text it is about, its text."""
    book = checked_block(history, block)
    return notes_at(book, block, counting_deeds(book, book.clock))
