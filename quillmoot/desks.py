"""Desks: what one hand has of the deeds, what it shows of them, and what it does."""

from quillmoot.books import ROOT, Book
from quillmoot.clocks import is_clock, is_within
from quillmoot.deeds import id_of, is_deed
from quillmoot.errors import InvalidClock, InvalidDeed, InvalidNumber, Misfit, NoBlock, NotAllowed, Undefined, Unlike
from quillmoot.fitting import OWNER, fits_book, fits_turn, next_open
from quillmoot.forms import is_guest, is_number, is_rank
from quillmoot.outline import whole_outline
from quillmoot.pages import document_of
from quillmoot.shown import shown_row, text_of
from quillmoot.signs import check_block
from quillmoot.standing import is_seen, last_ruling
from quillmoot.trees import place_in

OWNERS_ACTS = ("bar", "let", "settle")
MOST_ERASED = 8


class Desk:
    """The desk of a hand: a book of deeds, and deeds that came too early and wait."""

    def __init__(self, hand):
        self.hand = hand
        self.book = Book()
        self.early = {}
        # whether there was never a deed that it has no more
        self.is_whole = True

    def begin(self, book):
        """Begin with the book of a snapshot, in place of one without deeds."""
        self.book = book
        self.is_whole = False

    # what it shows

    def clock(self):
        """How many deeds of each hand it has."""
        return self.book.clock

    def document(self):
        """For each block that is shown: its id, its depth, its runs, its notes."""
        return document_of(self.book)

    def text(self, block):
        """The shown signs of a block as one string."""
        check_block(self.book, block)
        return text_of(self.book, shown_row(self.book, block))

    def deeds(self):
        """Its deeds in turn."""
        if not self.is_whole:
            raise Undefined("deeds")
        return self.book.in_turn(self.book.clock)

    # what comes to it

    def take(self, deed):
        """Take in any value if it is a deed that can come by now, otherwise have it wait; the ids of what came."""
        if not is_deed(deed):
            raise InvalidDeed(deed)
        if self.has_unlike(deed):
            raise Unlike(deed)
        deed_id = id_of(deed)
        if is_seen(self.book.clock, deed_id) or deed_id in self.early:
            return ()
        if not self.can_come(deed):
            self.early[deed_id] = deed
            return ()
        if not fits_book(self.book, deed):
            raise Misfit(deed)
        self.book.enter(deed)
        return (deed_id,) + self.come_along()

    def has_unlike(self, deed):
        """Whether another deed of the same id is there or waits."""
        deed_id = id_of(deed)
        if deed_id in self.early:
            return self.early[deed_id] != deed
        return self.is_whole and deed_id in self.book.deeds and self.book.deeds[deed_id] != deed

    def can_come(self, deed):
        """Whether a deed is the next one of its hand, and its past is there."""
        hand, number, seen, _ = deed
        return number == self.book.clock[hand - 1] + 1 and is_within(seen, self.book.clock)

    def come_along(self):
        """Take in those that waited and can come by now, and forget those of them that do not fit."""
        come = []
        deed_id = self.next_early()
        while deed_id is not None:
            deed = self.early.pop(deed_id)
            if fits_book(self.book, deed):
                self.book.enter(deed)
                come.append(deed_id)
            deed_id = self.next_early()
        self.early = {waiting: self.early[waiting] for waiting in self.early if not is_seen(self.book.clock, waiting)}
        return tuple(come)

    def next_early(self):
        """The first, by id, of the deeds that wait and can come by now, or None."""
        for deed_id in sorted(self.early):
            if self.can_come(self.early[deed_id]):
                return deed_id
        return None

    def waiting(self):
        """The ids of the deeds that wait, ascending."""
        return tuple(sorted(self.early))

    def lacking(self, clock):
        """The deeds it has that a clock does not count, in turn."""
        if not is_clock(clock):
            raise InvalidClock(clock)
        if not is_within(self.book.base, clock):
            raise Undefined("deeds")
        return tuple([deed for deed in self.book.in_turn(self.book.clock) if not is_seen(clock, deed)])

    # what doings ask

    def check_allowed(self, word):
        """Raise NotAllowed if this hand may not do such an act."""
        if word in OWNERS_ACTS:
            is_refused = self.hand != OWNER
        else:
            is_refused = last_ruling(self.book, self.hand, self.book.clock) == "bar"
        if is_refused:
            raise NotAllowed(word)

    def check_shown(self, block):
        """Raise NoBlock unless the document shows this block."""
        check_block(self.book, block)
        if block not in [shown for shown, _ in whole_outline(self.book).shown()]:
            raise NoBlock(block)

    def check_not_root(self, block):
        """Raise NoBlock unless there is this block and it is not the root."""
        check_block(self.book, block)
        if block == ROOT:
            raise NoBlock(block)

    def check_behind(self, behind):
        """Raise NoBlock unless this is None or a block."""
        if behind is not None:
            check_block(self.book, behind)

    def span(self, block, at, many, most):
        """So many shown signs of a block from a place on, which may be no more than most."""
        shown = shown_row(self.book, block)
        if not is_number(at) or at >= len(shown):
            raise InvalidNumber(at)
        if not is_rank(many) or many > min(most, len(shown) - at):
            raise InvalidNumber(many)
        return shown[at:at + many]

    def made(self, act):
        """The deed that this act would be."""
        clock = self.book.clock
        return (self.hand, clock[self.hand - 1] + 1, clock, act)

    def done(self, act):
        """Do an act and return the deed."""
        deed = self.made(act)
        self.take(deed)
        return deed

    # what it does

    def write(self, block, at, text):
        """Type a text behind so many shown signs of a block."""
        self.check_allowed("write")
        self.check_shown(block)
        shown = shown_row(self.book, block)
        if not is_number(at) or at > len(shown):
            raise InvalidNumber(at)
        left, start = None, 0
        if at > 0:
            left = shown[at - 1]
            start = place_in(self.book.trees.row(block), left) + 1
        right = next_open(self.book, self.book.clock, block, start)
        return self.done(("write", block, left, right, text))

    def erase(self, block, at, many):
        """Take away shown signs of a block."""
        self.check_allowed("erase")
        self.check_shown(block)
        signs = self.span(block, at, many, MOST_ERASED)
        return self.done(("erase", tuple(sorted(signs))))

    def mark(self, block, at, many, name, worth):
        """Mark shown signs of a block."""
        self.check_allowed("mark")
        self.check_shown(block)
        signs = self.span(block, at, many, many)
        return self.done(("mark", signs[0], signs[-1], name, worth))

    def note(self, block, at, many, text):
        """Put a note on shown signs of a block."""
        self.check_allowed("note")
        self.check_shown(block)
        signs = self.span(block, at, many, many)
        return self.done(("note", signs[0], signs[-1], text))

    def block(self, parent, behind):
        """Make a block."""
        self.check_allowed("block")
        check_block(self.book, parent)
        self.check_behind(behind)
        return self.done(("block", parent, behind))

    def move(self, block, parent, behind):
        """Move a block, with all below it."""
        self.check_allowed("move")
        self.check_not_root(block)
        check_block(self.book, parent)
        self.check_behind(behind)
        return self.done(("move", block, parent, behind))

    def drop(self, block):
        """Drop a block."""
        self.check_allowed("drop")
        self.check_not_root(block)
        return self.done(("drop", block))

    def undo(self, n):
        """Undo a deed of this hand."""
        return self.turned("undo", n)

    def redo(self, n):
        """Redo a deed of this hand."""
        return self.turned("redo", n)

    def turned(self, word, n):
        """Undo or redo a deed of this hand that is not settled."""
        self.check_allowed(word)
        if not fits_turn(self.book, self.made((word, n))):
            raise InvalidNumber(n)
        return self.done((word, n))

    def bar(self, hand):
        """Bar another hand."""
        return self.ruled("bar", hand)

    def let(self, hand):
        """Let another hand go on."""
        return self.ruled("let", hand)

    def ruled(self, word, hand):
        """Bar another hand, or let it go on."""
        self.check_allowed(word)
        if not is_guest(hand):
            raise InvalidNumber(hand)
        return self.done((word, hand))

    def settle(self):
        """Settle all that is there."""
        self.check_allowed("settle")
        return self.done(("settle",))

    def say(self):
        """Do nothing but tell what is known here."""
        return self.done(("say",))
