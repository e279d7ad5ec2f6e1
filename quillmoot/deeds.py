"""Acts and deeds, told by their forms alone."""

from quillmoot.clocks import is_clock
from quillmoot.forms import FORMS

# for the word of each act the kinds of its parts, as forms names them
PARTS = {
    "write": ("block", "place", "place", "text"),
    "erase": ("signs",),
    "mark": ("sign", "sign", "word", "worth"),
    "note": ("sign", "sign", "text"),
    "block": ("block", "behind"),
    "move": ("block", "block", "behind"),
    "drop": ("block",),
    "undo": ("rank",),
    "redo": ("rank",),
    "bar": ("guest",),
    "let": ("guest",),
    "settle": (),
    "say": (),
}


def is_act(value):
    """Whether any value is an act."""
    if not isinstance(value, tuple) or not value:
        return False
    word = value[0]
    # a list can not be looked up, so the word is known to be a string first
    kinds = PARTS.get(word, None) if isinstance(word, str) else None
    if kinds is None or len(value) != len(kinds) + 1:
        return False
    for at, kind in enumerate(kinds, start=1):
        form = FORMS[kind]
        if not form(value[at]):
            return False
    return True


def is_deed(value):
    """Whether any value is a deed."""
    if not isinstance(value, tuple) or len(value) != 4:
        return False
    hand, number, seen, act = value
    if not isinstance(hand, int) or not isinstance(number, int) or hand is True or number is True:
        return False
    if not 1 <= hand <= 4 or not is_clock(seen):
        return False
    # as the clock has no number below 0, this is from 1 on
    return number == seen[hand - 1] + 1 and is_act(act)


def id_of(deed):
    """The id of a deed: its hand and its number."""
    return (deed[0], deed[1])
