"""The marks on signs, and the runs of signs that are marked alike."""

from quillmoot.histories import checked
from quillmoot.marking import runs_at, spans_of, winners_at, worths_at
from quillmoot.signs import check_sign, checked_block
from quillmoot.standing import counting_deeds


def spans_and_place(history, sign):
    """The marks of the block of a sign of a history, and the place of the sign in its row."""
    book = checked(history)
    check_sign(book, sign)
    block = book.trees.block_of[sign]
    spans = spans_of(book, block, counting_deeds(book, book.clock), "mark")
    return spans, book.trees.row(block).index(sign)


def winner(history, sign, name):
    """The id of the mark of this name that wins at a sign, or None."""
    spans, at = spans_and_place(history, sign)
    winners = winners_at(spans, at)
    return winners[name][0] if name in winners else None


def marks_at(history, sign):
    """The names and worths of the marks at a sign, names ascending."""
    spans, at = spans_and_place(history, sign)
    return worths_at(spans, at)


def runs_of(history, block):
    """The shown signs of a block: texts with their marks, neighbours of the same marks put together."""
    book = checked_block(history, block)
    return runs_at(book, block, counting_deeds(book, book.clock))
