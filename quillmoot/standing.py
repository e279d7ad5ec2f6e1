"""Which deeds count, told from a book of deeds that are a history; without checks."""

from quillmoot.deeds import id_of


def is_seen(clock, deed_id):
    """Whether a clock counts this deed; its id will do, and so will that of a sign, which begin alike."""
    return deed_id[1] <= clock[deed_id[0] - 1]


def first_bar(book, deed):
    """The first bar, by number, that bars this deed, or None."""
    hand, _, seen, _ = deed
    if hand not in book.rulings:
        return None
    freed = max([0] + [ruling[1] for ruling in book.rulings[hand] if ruling[3][0] == "let" and is_seen(seen, ruling)])
    for ruling in book.rulings[hand]:
        # a let has all that the owner did ahead of it in its past
        if ruling[3][0] == "bar" and ruling[1] > freed and not is_seen(ruling[2], deed):
            return ruling
    return None


def last_ruling(book, hand, seen):
    """The word of the last bar or let of this hand that a clock counts, or None."""
    last = None
    for ruling in book.rulings.get(hand, []):
        if is_seen(seen, ruling):
            last = ruling[3][0]
    return last


def first_settle(book, deed_id, clock):
    """The first settle, of those that a clock counts, that has this deed in its past, or None."""
    for settle in book.settles:
        if is_seen(clock, settle) and is_seen(settle[2], deed_id):
            return settle
    return None


def is_late_turn(book, turn, deed_id):
    """Whether an undo or redo of this deed is late."""
    return any([is_seen(settle[2], deed_id) and not is_seen(settle[2], turn) for settle in book.settles])


def undoing(book, deed_id):
    """The undo because of which this deed is undone, or None."""
    last = None
    for turn in book.turns_of.get(deed_id, []):
        if first_bar(book, turn) is None and not is_late_turn(book, turn, deed_id):
            last = turn
    if last is None or last[3][0] == "redo":
        return None
    return last


def reason_against(book, deed_id):
    """The id of the bar or undo because of which this deed does not count, or None."""
    bar = first_bar(book, book.deeds[deed_id])
    if bar is not None:
        return id_of(bar)
    undo = undoing(book, deed_id)
    return None if undo is None else id_of(undo)


def does_count(book, deed_id):
    """Whether this deed counts."""
    # mostly its hand was never barred, and nobody undid it
    if deed_id[0] not in book.rulings and deed_id not in book.turns_of:
        return True
    return reason_against(book, deed_id) is None


def counting_deeds(book, clock):
    """The deeds that a clock counts and that count, in turn; of a base that is gone its marks and notes alone."""
    turns = book.in_turn(clock)
    return book.base_marks + [deed for deed in turns if does_count(book, id_of(deed))]
