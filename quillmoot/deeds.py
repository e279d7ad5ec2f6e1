"""Acts and deeds, told by their forms alone."""

from quillmoot.clocks import is_clock
from quillmoot.forms import FORMS, is_hand, is_rank

# for the word of each act the kinds of its parts, as forms names them
PARTS = {
    "write": ("block", "place", "place", "text"),
    "erase": ("signs",),
    "mark": ("sign", "sign", "word", "worth"),
    "note": ("sign", "sign", "text"),
    "block": ("block", "behind"),
    "move": ("block", "block", "behind"),
    "drop": ("block",),
    "undo": ("rank",),
    "redo": ("rank",),
    "bar": ("guest",),
    "let": ("guest",),
    "settle": (),
    "say": (),
}


def is_act(value):
    """Whether any value is an act."""
    if not isinstance(value, tuple) or not value:
        return False
    word = value[0]
    # a list can not be looked up, so the word is known to be a string first
    if not isinstance(word, str) or word not in PARTS:
        return False
    kinds = PARTS[word]
    if len(value) != len(kinds) + 1:
        return False
    for kind, part in zip(kinds, value[1:]):
        form = FORMS[kind]
        if not form(part):
            return False
    return True


def is_deed(value):
    """Whether any value is a deed."""
    if not isinstance(value, tuple) or len(value) != 4:
        return False
    hand, number, seen, act = value
    if not is_hand(hand) or not is_rank(number) or not is_clock(seen):
        return False
    return seen[hand - 1] == number - 1 and is_act(act)


def id_of(deed):
    """The id of a deed: its hand and its number."""
    return (deed[0], deed[1])
