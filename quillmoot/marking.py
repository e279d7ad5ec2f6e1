"""The marks on the signs of a book; without checks."""

from quillmoot.deeds import id_of
from quillmoot.shown import shown_row, text_of
from quillmoot.standing import does_count


def spans_of(book, block):
    """The mark deeds of a block that count, in turn: for each its id, its first and last place in the row, its act."""
    places = {sign: at for at, sign in enumerate(book.trees.row(block))}
    spans = []
    for deed in book.in_turn(book.clock):
        act = deed[3]
        if act[0] == "mark" and act[1] in places and does_count(book, id_of(deed)):
            spans.append((id_of(deed), places[act[1]], places[act[2]], act))
    return spans


def winners_at(spans, at):
    """For each name that is marked at a place of the row the id of the mark that wins there, and its worth."""
    winners = {}
    for deed_id, first, last, act in spans:
        if first <= at <= last:
            winners[act[3]] = (deed_id, act[4])
    return winners


def worths_at(spans, at):
    """The names with the worths of the winners that have one, names ascending."""
    winners = winners_at(spans, at)
    return tuple([(name, winners[name][1]) for name in sorted(winners) if winners[name][1] is not None])


def runs_at(book, block):
    """The shown signs of a block, neighbours of the same marks put together."""
    spans = spans_of(book, block)
    places = {sign: at for at, sign in enumerate(book.trees.row(block))}
    runs = []
    for sign in shown_row(book, block):
        marks = worths_at(spans, places[sign])
        if runs and runs[-1][1] == marks:
            runs[-1][0].append(sign)
        else:
            runs.append(([sign], marks))
    return tuple([(text_of(book, signs), marks) for signs, marks in runs])
