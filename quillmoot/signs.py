"""The row and the tree of the signs of a block, papers of order, and the signs that go."""

from quillmoot.errors import NoBlock, NoSign, Undefined
from quillmoot.forms import is_block_id, is_sign_id
from quillmoot.histories import checked
from quillmoot.passing import let_go, open_row_at, passed_at


def check_block(book, block):
    """Raise NoBlock unless there is this block."""
    if not is_block_id(block) or block not in book.blocks:
        raise NoBlock(block)


def checked_block(history, block):
    """The book of a history that has this block."""
    book = checked(history)
    check_block(book, block)
    return book


def is_sign(book, sign):
    """Whether any value is a sign of a book."""
    return is_sign_id(sign) and sign in book.trees.block_of


def check_sign(book, sign):
    """Raise NoSign unless there is this sign."""
    if not is_sign(book, sign):
        raise NoSign(sign)


def row_of(history, block):
    """The signs of a block in their row, whether they are shown or not."""
    book = checked_block(history, block)
    return tuple(book.trees.row(block))


def parent_of(history, sign):
    """What a sign is a child of, None for the node above all, and on which side."""
    book = checked(history)
    check_sign(book, sign)
    return book.trees.parent(sign)


def can_be_ordered(trees, x, y):
    """Whether two signs are unlike and of one block."""
    return x != y and trees.block_of[x] == trees.block_of[y]


def order_paper(history, x, y):
    """The ways of two signs from which their order can be told."""
    book = checked(history)
    check_sign(book, x)
    check_sign(book, y)
    if not can_be_ordered(book.trees, x, y):
        raise Undefined("order")
    return book.trees.ways(x, y)


def tells_ahead(paper):
    """Whether by a paper of order the first sign stands ahead of the other one."""
    way, other = paper
    if not way:
        return other[-1][1] == "right"
    if not other:
        return way[-1][1] == "left"
    (sign, side), (other_sign, other_side) = way[-1], other[-1]
    # the words of the sides ascend as the sides do
    return (side, sign) < (other_side, other_sign)


def order_holds(history, x, y, paper):
    """Whether any value is the paper of order of any two values, and tells that x stands ahead of y."""
    book = checked(history)
    if not is_sign(book, x) or not is_sign(book, y) or not can_be_ordered(book.trees, x, y):
        return False
    if paper != book.trees.ways(x, y) or not tells_ahead(paper):
        return False
    # truth values are equal to numbers, and are none
    return all([is_sign_id(sign) for way in paper for sign, _ in way])


def shut_signs(history, block):
    """The signs of a block of which it is settled that they are not shown."""
    book = checked_block(history, block)
    return tuple([sign for sign in book.trees.row(block) if sign in book.shut])


def passed_signs(history, block):
    """The shut signs of a block of which each hand knows, with all below them."""
    book = checked_block(history, block)
    passed = passed_at(book, book.clock, block)
    return tuple([sign for sign in book.trees.row(block) if sign in passed])


def let_go_signs(history, block):
    """The signs of a block of which each hand knows that they are passed, and that nothing else can name."""
    book = checked_block(history, block)
    gone = let_go(book, block)
    return tuple([sign for sign in book.trees.row(block) if sign in gone])


def open_row(history, block):
    """The row of a block less the passed signs."""
    book = checked_block(history, block)
    return tuple(open_row_at(book, book.clock, block))
