"""What the document of a book is; without checks."""

from quillmoot.books import Book
from quillmoot.marking import notes_at, runs_at
from quillmoot.outline import outline_of, whole_outline
from quillmoot.shown import shown_row, text_of
from quillmoot.standing import counting_deeds


def document_of(book):
    """For each block that is shown: its id, its depth, its runs, its notes."""
    deeds = counting_deeds(book, book.clock)
    pages = []
    for block, depth in outline_of(book, deeds).shown():
        pages.append((block, depth, runs_at(book, block, deeds), notes_at(book, block, deeds)))
    return tuple(pages)


def text_of_document(book):
    """A line for each block that is shown: two blanks for each step of its depth, then its text."""
    lines = []
    for block, depth in whole_outline(book).shown():
        lines.append("  " * depth + text_of(book, shown_row(book, block)))
    return "\n".join(lines)


def book_at(book, clock):
    """The book of the deeds that a cut counts, of a book that has all its deeds."""
    earlier = Book()
    for deed in book.in_turn(clock):
        earlier.enter(deed)
    return earlier
