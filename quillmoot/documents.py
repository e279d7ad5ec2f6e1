"""The whole document: what it shows, what it has shown, and what changed."""

from quillmoot.clocks import NOUGHT, stepped
from quillmoot.histories import check_cut, checked
from quillmoot.outline import whole_outline
from quillmoot.pages import book_at, document_of, text_of_document
from quillmoot.shown import shown_row
from quillmoot.signs import checked_block


def document(history):
    """For each block that is shown: its id, its depth, its runs, its notes."""
    return document_of(checked(history))


def document_text(history):
    """A line for each block that is shown: two blanks for each step of its depth, then its text."""
    return text_of_document(checked(history))


def document_at(history, clock):
    """The document of the deeds that a cut counts."""
    book = checked(history)
    check_cut(book, clock)
    return document_of(book_at(book, clock))


def cuts_of(history):
    """The clocks of no deed, of the first deed in turn, of the first two, and so on."""
    book = checked(history)
    clock = NOUGHT
    cuts = [clock]
    for hand, number, _, _ in book.in_turn(book.clock):
        clock = stepped(clock, hand, number)
        cuts.append(clock)
    return tuple(cuts)


def shown_in(book):
    """A dict that has the signs of all blocks that are shown as its keys."""
    return {sign: True for block in book.blocks for sign in shown_row(book, block)}


def only_shown(book, shown, others):
    """The signs that are keys of one dict and not of the other one, by blocks ascending, then by the row."""
    rows = [book.trees.row(block) for block in sorted(book.blocks)]
    return tuple([sign for row in rows for sign in row if sign in shown and sign not in others])


def homes_of(book):
    """The parent and the depth of each block that is shown."""
    outline = whole_outline(book)
    return {block: (outline.parents[block], depth) for block, depth in outline.shown()}


def changes(history, clock, other):
    """The signs shown at the other cut alone, those shown at the first alone, and the blocks that moved between."""
    book = checked(history)
    check_cut(book, clock)
    check_cut(book, other)
    one, two = book_at(book, clock), book_at(book, other)
    gone, come = shown_in(one), shown_in(two)
    homes, new_homes = homes_of(one), homes_of(two)
    moved = [block for block in sorted(homes) if block in new_homes and homes[block] != new_homes[block]]
    return (only_shown(book, come, gone), only_shown(book, gone, come), tuple(moved))


def who_typed(history, block):
    """The hand of each shown sign of a block, in order."""
    book = checked_block(history, block)
    return tuple([sign[0] for sign in shown_row(book, block)])
