"""The lines of a log: their forms, and what they tell."""

from quillmoot.deedtext import FIGURES, MOST_FIGURES, NOTHING, numbers_of
from quillmoot.errors import InvalidText
from quillmoot.forms import is_text, is_word

# for the first word of each line the kinds of those behind it
LINES = {
    "write": ("hand", "block", "number", "text"),
    "erase": ("hand", "block", "number", "number"),
    "mark": ("hand", "block", "number", "number", "word", "worth"),
    "note": ("hand", "block", "number", "number", "text"),
    "block": ("hand", "block", "behind"),
    "move": ("hand", "block", "block", "behind"),
    "drop": ("hand", "block"),
    "undo": ("hand", "number"),
    "redo": ("hand", "number"),
    "bar": ("hand", "hand"),
    "let": ("hand", "hand"),
    "settle": ("hand",),
    "say": ("hand",),
    "deliver": ("number",),
    "double": ("number",),
    "lose": ("number",),
    "put_off": ("number",),
    "divide": ("number", "number", "number", "number"),
    "unite": (),
    "meet": ("hand", "hand"),
    "fresh": ("hand",),
    "show": ("hand",),
}


def is_hand_word(word):
    """Whether this tells a hand."""
    return word in ("1", "2", "3", "4")


def is_number_word(word):
    """Whether this tells a number."""
    if not 1 <= len(word) <= MOST_FIGURES or word.strip(FIGURES) != "":
        return False
    return word == "0" or word[0] != "0"


def is_block_word(word):
    """Whether this tells a block."""
    hand, _, number = word.partition(".")
    return word == "0.0" or (is_hand_word(hand) and is_number_word(number) and number != "0")


def is_behind_word(word):
    """Whether this tells a block or none."""
    return word == NOTHING or is_block_word(word)


def is_worth_word(word):
    """Whether this tells a worth or none."""
    return word == NOTHING or is_word(word)


KINDS = {
    "hand": is_hand_word,
    "number": is_number_word,
    "block": is_block_word,
    "behind": is_behind_word,
    "word": is_word,
    "worth": is_worth_word,
    "text": is_text,
}


def value_of(kind, word):
    """What a right word of this kind tells."""
    if kind in ("hand", "number"):
        return int(word)
    if kind in ("block", "behind"):
        return numbers_of(word)
    return None if word == NOTHING else word


def words_behind(line, kinds):
    """The words of a line behind its first one; a text goes to the end."""
    if "text" in kinds:
        return line.split(" ", len(kinds))[1:]
    return line.split(" ")[1:]


def read_line(line):
    """The first word of a line, and what the others tell; raises InvalidText for what has no such form."""
    first = line.partition(" ")[0]
    if first not in LINES:
        raise InvalidText(line, 0)
    kinds = LINES[first]
    words = words_behind(line, kinds)
    at = len(first) + 1
    told = []
    for kind, word in zip(kinds, words):
        is_right = KINDS[kind]
        if not is_right(word):
            raise InvalidText(line, at)
        told.append(value_of(kind, word))
        at += len(word) + 1
    if len(words) > len(kinds):
        raise InvalidText(line, at)
    if len(words) < len(kinds):
        raise InvalidText(line, len(line))
    return first, tuple(told)
