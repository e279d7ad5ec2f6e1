"""What is shown of the signs of a book; without checks."""

from quillmoot.standing import does_count


def is_typed(book, write, sign):
    """Whether a sign is shown but for the erases that the book has; write is the id of its deed."""
    if write in book.deeds:
        return does_count(book, write)
    return book.base_letters[sign] is not None


def is_erased(book, sign):
    """Whether an erase that counts names a sign."""
    return any([does_count(book, deed_id) for deed_id in book.erasing.get(sign, [])])


def shown_row(book, block):
    """The shown signs of a block in their row."""
    shown = []
    # the signs of a deed mostly stand side by side, so whether it counts is asked once
    last, counts = None, False
    for sign in book.trees.row(block):
        write = sign[:2]
        if write != last or write not in book.deeds:
            last, counts = write, is_typed(book, write, sign)
        if counts and not is_erased(book, sign):
            shown.append(sign)
    return shown


def letter_at(book, sign):
    """The letter or blank that a sign is, whether it is shown or not."""
    hand, number, k = sign
    if (hand, number) in book.deeds:
        return book.deeds[(hand, number)][3][4][k]
    return book.base_letters[sign]


def text_of(book, signs):
    """What these signs are, as one string."""
    return "".join([letter_at(book, sign) for sign in signs])
