"""The base of a book: its first deeds, of which it is settled for good, and known to all, whether they count."""

from quillmoot.clocks import NOUGHT, stepped
from quillmoot.passing import common_settle, let_go


def settled_for_all(book):
    """The clock of the deeds that are settled in the past of a deed of each hand."""
    limit = common_settle(book, book.clock)
    settled = NOUGHT
    for settle in book.settles:
        # each settle has all that the earlier ones have in its past
        if settle[1] <= limit:
            settled = settle[2]
    return settled


def base_of(book):
    """The clock of the base."""
    settled = settled_for_all(book)
    base = book.base
    for hand, number, _, _ in book.in_turn(book.clock):
        if number > settled[hand - 1]:
            break
        base = stepped(base, hand, number)
    return base


def kept_rows(book):
    """For each block, ascending, its row less the signs that are let go."""
    rows = {}
    for block in sorted(book.blocks):
        gone = let_go(book, block)
        rows[block] = [sign for sign in book.trees.row(block) if sign not in gone]
    return rows
