"""Whether a deed fits, and which values are histories, worked out by a book."""

from quillmoot.books import ROOT, Book
from quillmoot.deeds import is_deed
from quillmoot.passing import passed_at
from quillmoot.standing import first_settle, is_seen, last_ruling
from quillmoot.trees import place_in

OWNER = 1
# what can be undone
DOINGS = ("write", "erase", "mark", "note", "block", "move", "drop")


def is_block(book, seen, block):
    """Whether this is a block of the part that a clock counts."""
    return block in book.blocks and (block == ROOT or is_seen(seen, block))


def is_block_or_none(book, seen, block):
    """Whether this is None or a block of the part."""
    return block is None or is_block(book, seen, block)


def is_open(book, seen, sign):
    """Whether this is a sign of an open row of the part."""
    if sign not in book.trees.block_of or not is_seen(seen, sign):
        return False
    return sign not in passed_at(book, seen, book.trees.block_of[sign])


def next_open(book, seen, block, at):
    """The first sign from this place of a row on that is in the open row of the part, or None."""
    row = book.trees.row(block)
    passed = passed_at(book, seen, block)
    for sign in row[at:]:
        if is_seen(seen, sign) and sign not in passed:
            return sign
    return None


def fits_write(book, deed):
    """Whether the places of a write are next to each other in the open row."""
    _, _, seen, (_, block, left, right, _) = deed
    if not is_block(book, seen, block):
        return False
    if left is None:
        return next_open(book, seen, block, 0) == right
    if not is_open(book, seen, left) or book.trees.block_of[left] != block:
        return False
    return next_open(book, seen, block, place_in(book.trees.row(block), left) + 1) == right


def fits_erase(book, deed):
    """Whether the signs stand in open rows; they may be of several blocks."""
    _, _, seen, (_, signs) = deed
    return all([is_open(book, seen, sign) for sign in signs])


def fits_span(book, deed):
    """Whether a mark or a note goes from a sign of an open row to one of the same row that is not ahead."""
    _, _, seen, act = deed
    first, last = act[1], act[2]
    block_of = book.trees.block_of
    if not is_open(book, seen, first) or not is_open(book, seen, last) or block_of[first] != block_of[last]:
        return False
    row = book.trees.row(block_of[first])
    return row.index(first) <= row.index(last)


def fits_block(book, deed):
    """Whether the blocks that a block names are there."""
    _, _, seen, (_, parent, behind) = deed
    return is_block(book, seen, parent) and is_block_or_none(book, seen, behind)


def fits_move(book, deed):
    """Whether the blocks that a move names are there, and it does not move the root."""
    _, _, seen, (_, block, parent, behind) = deed
    if block == ROOT or not is_block(book, seen, block):
        return False
    return is_block(book, seen, parent) and is_block_or_none(book, seen, behind)


def fits_drop(book, deed):
    """Whether the block is there and not the root."""
    _, _, seen, (_, block) = deed
    return block != ROOT and is_block(book, seen, block)


def fits_turn(book, deed):
    """Whether an undo or redo is of an earlier deed of this hand that can still be undone."""
    hand, number, seen, (_, n) = deed
    if n >= number or (hand, n) not in book.deeds or book.deeds[(hand, n)][3][0] not in DOINGS:
        # a deed of a base that is gone is settled
        return False
    return first_settle(book, (hand, n), seen) is None


def fits_owner(book, deed):
    """Whether the hand is the owner."""
    return deed[0] == OWNER


# a say asks nothing
RULES = {
    "write": fits_write,
    "erase": fits_erase,
    "mark": fits_span,
    "note": fits_span,
    "block": fits_block,
    "move": fits_move,
    "drop": fits_drop,
    "undo": fits_turn,
    "redo": fits_turn,
    "bar": fits_owner,
    "let": fits_owner,
    "settle": fits_owner,
}


def fits_book(book, deed):
    """Whether a deed fits the deeds of a book."""
    hand, _, seen, act = deed
    if not book.is_cut(seen):
        return False
    if act[0] == "say":
        return True
    if hand in book.rulings and last_ruling(book, hand, seen) == "bar":
        return False
    rule = RULES[act[0]]
    return rule(book, deed)


def weight_of(deed):
    """How many deeds a deed has seen: of a closed set always more than each deed of its past has."""
    return sum(deed[2])


def book_of(value):
    """The book of any value, or None if it is no history."""
    if not isinstance(value, (list, tuple)):
        return None
    for deed in value:
        if not is_deed(deed):
            return None
    book = Book()
    for deed in sorted(value, key=weight_of):
        # of the deeds told twice, or unlike ones of one id, the second one is never the next of its hand
        if deed[1] != book.clock[deed[0] - 1] + 1 or not fits_book(book, deed):
            return None
        book.enter(deed)
    return book
