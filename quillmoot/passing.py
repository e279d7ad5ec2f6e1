"""Which signs go, told from a book of deeds that are a history; without checks.

The clocks here count the whole base of the book, where it has one.
"""

from quillmoot.clocks import met
from quillmoot.standing import is_seen


def row_at(book, clock, block):
    """The signs of a block in a part, in their row: that of the whole less what is not in the part."""
    return [sign for sign in book.trees.row(block) if is_seen(clock, sign)]


def common_settle(book, clock):
    """The number of the last of the owner's deeds that each hand has in the past of a deed of its own in a part."""
    return min([seen[0] for seen in book.last_seen(clock)])


def is_named(book, clock, sign):
    """Whether a mark or note of a part names a sign, whether that counts or not."""
    return sign in book.base_named or any([is_seen(clock, deed_id) for deed_id in book.marking.get(sign, [])])


def is_free(book, clock, limit, sign):
    """Whether a sign of a part is shut from a settle of no greater number on, and no mark or note there names it."""
    return sign in book.shut and book.shut[sign] <= limit and not is_named(book, clock, sign)


def passed_at(book, clock, block):
    """A dict that has the signs of a block that are passed in a part as its keys."""
    # mostly nothing is shut, or no settle is known to all, and then nothing is passed
    limit = common_settle(book, clock) if book.shut else 0
    if limit == 0:
        return {}
    row = row_at(book, clock, block)
    held = book.trees.above([sign for sign in row if not is_free(book, clock, limit, sign)])
    return {sign: True for sign in row if sign not in held}


def open_row_at(book, clock, block):
    """The row of a block in a part less the passed signs."""
    passed = passed_at(book, clock, block)
    return [sign for sign in row_at(book, clock, block) if sign not in passed]


def is_left(book, limit, common, sign):
    """Whether a sign is free, and each erase that names it is known to all.

    A write that names it is known as well, as the signs below it are free, too; and so is each deed of the base.
    """
    if not is_free(book, book.clock, limit, sign):
        return False
    return all([is_seen(common, deed_id) for deed_id in book.erasing.get(sign, [])])


def let_go(book, block):
    """A dict that has the signs of a block that are let go as its keys."""
    seens = book.last_seen(book.clock)
    limit = min([common_settle(book, seen) for seen in seens])
    if limit == 0:
        return {}
    common = met(met(seens[0], seens[1]), met(seens[2], seens[3]))
    row = book.trees.row(block)
    held = book.trees.above([sign for sign in row if not is_left(book, limit, common, sign)])
    return {sign: True for sign in row if sign not in held}
