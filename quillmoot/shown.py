"""What is shown of the signs of a book; without checks."""

from quillmoot.standing import does_count


def shown_row(book, block):
    """The shown signs of a block in their row."""
    row = book.trees.row(block)
    counting = {}
    for sign in row:
        if sign[:2] not in counting:
            counting[sign[:2]] = does_count(book, sign[:2])
    return [sign for sign in row if counting[sign[:2]] and not is_erased(book, sign)]


def is_erased(book, sign):
    """Whether an erase that counts names a sign."""
    return any([does_count(book, deed_id) for deed_id in book.erasing.get(sign, [])])


def letter_at(book, sign):
    """The letter or blank that a sign is, whether it is shown or not."""
    hand, number, k = sign
    return book.deeds[(hand, number)][3][4][k]


def text_of(book, signs):
    """What these signs are, as one string."""
    return "".join([letter_at(book, sign) for sign in signs])
