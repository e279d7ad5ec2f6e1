"""The marks on the signs of a book, and its notes; without checks."""

from quillmoot.deeds import id_of
from quillmoot.shown import shown_row, text_of


def spans_of(book, block, deeds):
    """The marks, of these deeds in turn, on a block: for each its id, its first and last place in the row, its act."""
    places = {sign: at for at, sign in enumerate(book.trees.row(block))}
    spans = []
    for deed in deeds:
        act = deed[3]
        if act[0] == "mark" and act[1] in places:
            spans.append((id_of(deed), places[act[1]], places[act[2]], act))
    return spans


def winners_at(spans, at):
    """For each name that is marked at a place of the row the id of the mark that wins there, and its worth."""
    winners = {}
    for deed_id, first, last, act in spans:
        if first <= at <= last:
            winners[act[3]] = (deed_id, act[4])
    return winners


def worths_at(spans, at):
    """The names with the worths of the winners that have one, names ascending."""
    winners = winners_at(spans, at)
    return tuple([(name, winners[name][1]) for name in sorted(winners) if winners[name][1] is not None])


def runs_at(book, block, deeds):
    """The shown signs of a block, neighbours that these deeds mark alike put together."""
    shown = shown_row(book, block)
    spans = spans_of(book, block, deeds)
    if not spans:
        return ((text_of(book, shown), ()),) if shown else ()
    places = {sign: at for at, sign in enumerate(book.trees.row(block))}
    runs = []
    for sign in shown:
        marks = worths_at(spans, places[sign])
        if runs and runs[-1][1] == marks:
            runs[-1][0].append(sign)
        else:
            runs.append(([sign], marks))
    return tuple([(text_of(book, signs), marks) for signs, marks in runs])


def notes_at(book, block, deeds):
    """The notes, of these deeds in turn, on a block: for each its id, the places in the text it is about, its text."""
    places = {sign: at for at, sign in enumerate(book.trees.row(block))}
    shown = [places[sign] for sign in shown_row(book, block)]
    notes = []
    for deed in deeds:
        act = deed[3]
        if act[0] == "note" and act[1] in places:
            first, last = places[act[1]], places[act[2]]
            start = len([at for at in shown if at < first])
            end = len([at for at in shown if at <= last])
            notes.append((id_of(deed), start, end, act[3]))
    return tuple(notes)
