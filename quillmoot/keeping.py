"""Books as texts from which a desk can begin, and back; without checks.

A line for each thing that is kept, by its first word: "s" tells of each deed of the base, in turn, its hand and what it
has seen; "b" a block of the base, its parent ("-" if it is not in the tree), and whether it is dropped; "w" a write of
the base, its block, what its first sign hangs at and on which side, and its signs; "k" a mark or note of the base that
counts, or a bar or let of it; "d" a deed behind the base; "g" one that wrote signs which are all let go.
"""

from quillmoot.bases import base_of, kept_rows
from quillmoot.books import HANDS, ROOT, RULINGS, Book
from quillmoot.deeds import id_of
from quillmoot.deedtext import NOTHING, act_text, deed_text, dotted, numbers_of, read_deed, word_of
from quillmoot.outline import Outline, outline_of
from quillmoot.passing import is_named
from quillmoot.shown import is_typed, letter_at
from quillmoot.standing import counting_deeds, does_count, is_seen

NAMED = "*"
DROPPED = "dropped"


def in_base(base, book):
    """The ids of the deeds of a base, in turn, whether the book still has them or not."""
    ids = [(hand, number + 1) for hand, many in zip(HANDS, base) for number in range(many)]
    return sorted(ids, key=book.turn_of)


def seen_line(book, base):
    """The line of what the deeds of the base have seen."""
    return "s " + ";".join([dotted((deed_id[0],) + book.seen_of(deed_id)) for deed_id in in_base(base, book)])


def block_lines(book, base):
    """The lines of the blocks of the base: those in the tree in preorder, then the others."""
    outline = outline_of(book, counting_deeds(book, base))
    lines = []
    for block in outline.preorder():
        if block != ROOT:
            dropped = [DROPPED] if block in outline.dropped else []
            lines.append(" ".join(["b", dotted(block), dotted(outline.parents[block])] + dropped))
    for block in sorted(book.blocks):
        if is_seen(base, block) and block not in outline.parents:
            lines.append(" ".join(["b", dotted(block), NOTHING]))
    return lines


def is_taken(book, base, sign):
    """Whether the base has taken a sign away."""
    if not is_typed(book, sign[:2], sign):
        return True
    erases = [deed_id for deed_id in book.erasing.get(sign, []) if is_seen(base, deed_id)]
    return any([does_count(book, deed_id) for deed_id in erases])


def sign_word(book, base, sign):
    """What is told of a sign of the base: its letter, whether it is named, from which settle on it is shut."""
    letter = NOTHING if is_taken(book, base, sign) else letter_at(book, sign).replace(" ", "_")
    named = NAMED if is_named(book, base, sign) else ""
    shut = str(book.shut[sign]) if sign in book.shut else ""
    return letter + named + shut


def write_lines(book, base, kept):
    """The lines of the writes of the base, in turn; kept are for each write the signs that are not let go."""
    lines = []
    for deed_id in in_base(base, book):
        if deed_id in kept:
            signs = kept[deed_id]
            parent, side = book.trees.parent(signs[0])
            block = book.trees.block_of[signs[0]]
            told = ",".join([sign_word(book, base, sign) for sign in signs])
            lines.append(" ".join(["w", dotted(deed_id), dotted(block), word_of(parent), side, told]))
    return lines


def kept_lines(book, base):
    """The lines of the marks and notes of the base that count, and of its bars and lets, in turn."""
    deeds = [deed for deed in counting_deeds(book, base) if deed[3][0] in ("mark", "note")]
    for rulings in book.rulings.values():
        deeds.extend([ruling for ruling in rulings if is_seen(base, ruling)])
    kept = {id_of(deed): act_text(deed[3]) for deed in deeds}
    # what they have seen is told already
    return [" ".join(["k", dotted(deed_id), kept[deed_id]]) for deed_id in sorted(kept, key=book.turn_of)]


def rest_lines(book, base, kept):
    """The lines of the deeds behind the base, in turn."""
    lines = []
    for deed in book.in_turn(book.clock):
        if not is_seen(base, deed):
            is_gone = deed[3][0] == "write" and id_of(deed) not in kept
            lines.append(("g " if is_gone else "d ") + deed_text(deed))
    return lines


def kept_text(book):
    """The text that tells what is kept of a book."""
    base = base_of(book)
    kept = {}
    for row in kept_rows(book).values():
        for sign in row:
            # in a row the signs of a deed stand in their order
            kept.setdefault(sign[:2], []).append(sign)
    lines = [seen_line(book, base)] + block_lines(book, base) + write_lines(book, base, kept)
    return "\n".join(lines + kept_lines(book, base) + rest_lines(book, base, kept))


def read_seen_line(book, words):
    """Take in what the deeds of the base have seen."""
    for word in words.split(";") if words else []:
        hand, *seen = numbers_of(word)
        book.enter_gone(hand, tuple(seen))


def read_block(book, words):
    """Take in a block of the base."""
    block, parent, *dropped = words.split(" ")
    block, parent = numbers_of(block), numbers_of(parent)
    book.blocks[block] = True
    if parent is not None:
        book.base_outline.hang(block, parent)
    if dropped:
        book.base_outline.dropped[block] = True


def read_sign(book, sign, word):
    """Take in what is told of a sign of the base."""
    letter, told = word[0], word[1:]
    book.base_letters[sign] = None if letter == NOTHING else letter.replace("_", " ")
    if told.startswith(NAMED):
        book.base_named[sign] = True
        told = told[1:]
    if told:
        book.shut[sign] = int(told)


def read_write(book, words):
    """Take in a write of the base."""
    own, block, parent, side, told = words.split(" ")
    write = numbers_of(own)
    signs = told.split(",")
    book.trees.hang(write, numbers_of(block), numbers_of(parent), side, len(signs))
    for k, word in enumerate(signs):
        read_sign(book, write + (k,), word)


def read_kept(book, words):
    """Take in a mark or note of the base, or a bar or let of it."""
    own, _, act = words.partition(" ")
    deed = read_deed(" ".join([own, dotted(book.seen_of(numbers_of(own))), act]))
    if deed[3][0] in RULINGS:
        book.rulings.setdefault(deed[3][1], []).append(deed)
    else:
        book.base_marks.append(deed)


def read_rest(book, words):
    """Take in a deed behind the base."""
    book.enter(read_deed(words))


def read_gone(book, words):
    """Take in a write behind the base of which all signs are let go."""
    book.enter_alone(read_deed(words))


READERS = {
    "s": read_seen_line,
    "b": read_block,
    "w": read_write,
    "k": read_kept,
    "d": read_rest,
    "g": read_gone,
}


def kept_book(text):
    """The book that has what a text of kept_text tells."""
    book = Book()
    book.base_outline = Outline()
    for line in text.split("\n"):
        word, _, words = line.partition(" ")
        reader = READERS[word]
        reader(book, words)
    return book
