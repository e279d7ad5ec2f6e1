"""The marks on the signs of a book, and its notes; without checks."""

from quillmoot.deeds import id_of
from quillmoot.shown import shown_row, text_of


def places_in(book, block):
    """The place of each sign of a block in the row."""
    return {sign: at for at, sign in enumerate(book.trees.row(block))}


def spans_of(book, block, deeds, word):
    """The marks or notes, of these deeds in turn, on a block: for each its id, its first and last place, its act."""
    block_of = book.trees.block_of
    found = [deed for deed in deeds if deed[3][0] == word and block_of[deed[3][1]] == block]
    if not found:
        return []
    places = places_in(book, block)
    return [(id_of(deed), places[deed[3][1]], places[deed[3][2]], deed[3]) for deed in found]


def winners_at(spans, at):
    """For each name that is marked at a place of the row the id of the mark that wins there, and its worth."""
    winners = {}
    for deed_id, first, last, act in spans:
        if first <= at <= last:
            winners[act[3]] = (deed_id, act[4])
    return winners


def worths_at(spans, at):
    """The names with the worths of the winners that have one, names ascending."""
    winners = winners_at(spans, at)
    return tuple([(name, winners[name][1]) for name in sorted(winners) if winners[name][1] is not None])


def runs_at(book, block, deeds):
    """The shown signs of a block, neighbours that these deeds mark alike put together."""
    shown = shown_row(book, block)
    spans = spans_of(book, block, deeds, "mark")
    if not spans:
        return ((text_of(book, shown), ()),) if shown else ()
    places = places_in(book, block)
    runs = []
    for sign in shown:
        marks = worths_at(spans, places[sign])
        if runs and runs[-1][1] == marks:
            runs[-1][0].append(sign)
        else:
            runs.append(([sign], marks))
    return tuple([(text_of(book, signs), marks) for signs, marks in runs])


def notes_at(book, block, deeds):
    """The notes, of these deeds in turn, on a block: for each its id, the places in the text it is about, its text."""
    spans = spans_of(book, block, deeds, "note")
    if not spans:
        return ()
    places = places_in(book, block)
    shown = [places[sign] for sign in shown_row(book, block)]
    notes = []
    for deed_id, first, last, act in spans:
        start = len([at for at in shown if at < first])
        end = len([at for at in shown if at <= last])
        notes.append((deed_id, start, end, act[3]))
    return tuple(notes)
