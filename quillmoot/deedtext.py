"""Deeds as texts of one line, and back."""

from quillmoot.deeds import PARTS
from quillmoot.errors import InvalidText
from quillmoot.forms import LETTERS, LETTERS_AND_BLANK, ascends

NOTHING = "-"
FIGURES = "0123456789"
MOST_FIGURES = 6
MOST_SIGNS = 8


def dotted(numbers):
    """A clock or an id: its numbers joined by points."""
    return ".".join([str(number) for number in numbers])


def word_of(numbers):
    """A clock or an id as a word; None where there is none."""
    return NOTHING if numbers is None else dotted(numbers)


def numbers_of(word):
    """The clock or id that a right word tells, or None."""
    return None if word == NOTHING else tuple([int(figures) for figures in word.split(".")])


def part_text(kind, value):
    """The text of one part of an act."""
    if value is None:
        return NOTHING
    if kind == "signs":
        return "+".join([dotted(sign) for sign in value])
    if isinstance(value, tuple):
        return dotted(value)
    return str(value)


def act_text(act):
    """The text of an act."""
    words = [act[0]]
    for kind, value in zip(PARTS[act[0]], act[1:]):
        words.append(part_text(kind, value))
    return " ".join(words)


def deed_text(deed):
    """The text of a deed."""
    hand, number, seen, act = deed
    return " ".join([dotted((hand, number)), dotted(seen), act_text(act)])


# Each reader below is given a text and where to begin, and returns what it read and where that ends. It raises at the
# first sign with which nothing goes on, so it never looks further ahead than one sign.


def is_one_of(text, at, signs):
    """Whether a sign stands at this place, and is one of these."""
    return at < len(text) and text[at] in signs


def pass_over(text, at, sign):
    """The place behind this sign, which must stand here."""
    if not is_one_of(text, at, sign):
        raise InvalidText(text, at)
    return at + 1


def read_figures(text, at, least):
    """A number from least on, which is 0 or 1."""
    if least == 0 and is_one_of(text, at, "0"):
        return 0, at + 1
    end = pass_over(text, at, "123456789")
    while end < at + MOST_FIGURES and is_one_of(text, end, FIGURES):
        end += 1
    return int(text[at:end]), end


def read_rank(text, at):
    """A number from 1 on."""
    return read_figures(text, at, 1)


def read_guest(text, at):
    """A hand other than the owner."""
    end = pass_over(text, at, "234")
    return int(text[at:end]), end


def read_deed_id(text, at):
    """The id of a deed."""
    end = pass_over(text, at, "1234")
    hand = int(text[at:end])
    number, end = read_rank(text, pass_over(text, end, "."))
    return (hand, number), end


def read_block(text, at):
    """The id of a deed or of the root."""
    if is_one_of(text, at, "0"):
        return (0, 0), pass_over(text, pass_over(text, at + 1, "."), "0")
    return read_deed_id(text, at)


def read_sign(text, at):
    """The id of a sign."""
    (hand, number), end = read_deed_id(text, at)
    k, end = read_figures(text, pass_over(text, end, "."), 0)
    return (hand, number, k), end


def read_place(text, at):
    """The id of a sign, or None."""
    if is_one_of(text, at, NOTHING):
        return None, at + 1
    return read_sign(text, at)


def read_behind(text, at):
    """The id of a block, or None."""
    if is_one_of(text, at, NOTHING):
        return None, at + 1
    return read_block(text, at)


def read_signs(text, at):
    """The ids of 1 to 8 signs."""
    sign, end = read_sign(text, at)
    signs = [sign]
    while len(signs) < MOST_SIGNS and is_one_of(text, end, "+"):
        sign, end = read_sign(text, end + 1)
        signs.append(sign)
    return tuple(signs), end


def read_run(text, at, signs):
    """A string of 1 to 8 of these signs."""
    end = pass_over(text, at, signs)
    while end < at + MOST_SIGNS and is_one_of(text, end, signs):
        end += 1
    return text[at:end], end


def read_word(text, at):
    """A word."""
    return read_run(text, at, LETTERS)


def read_worth(text, at):
    """A word, or None."""
    if is_one_of(text, at, NOTHING):
        return None, at + 1
    return read_word(text, at)


def read_text(text, at):
    """A text, which may have blanks in it."""
    return read_run(text, at, LETTERS_AND_BLANK)


READERS = {
    "block": read_block,
    "behind": read_behind,
    "sign": read_sign,
    "place": read_place,
    "signs": read_signs,
    "word": read_word,
    "worth": read_worth,
    "text": read_text,
    "rank": read_rank,
    "guest": read_guest,
}


def read_seen(text, at):
    """A clock."""
    first, at = read_figures(text, at, 0)
    seen = [first]
    for _ in range(3):
        number, at = read_figures(text, pass_over(text, at, "."), 0)
        seen.append(number)
    return tuple(seen), at


def read_act_word(text, at):
    """The word of an act; none of them is the beginning of another one."""
    end = at
    while text[at:end] not in PARTS:
        if end == len(text) or not any([word.startswith(text[at:end + 1]) for word in PARTS]):
            raise InvalidText(text, end)
        end += 1
    return text[at:end], end


def read_act(text, at):
    """An act, which goes to the end of the text, and where its first part begins."""
    word, end = read_act_word(text, at)
    first = end + 1
    act = [word]
    for kind in PARTS[word]:
        reader = READERS[kind]
        value, end = reader(text, pass_over(text, end, " "))
        act.append(value)
    if end < len(text):
        raise InvalidText(text, end)
    return tuple(act), first


def read_deed(text):
    """The deed whose text this is; raises InvalidText for every other string."""
    (hand, number), at = read_deed_id(text, 0)
    seen_at = pass_over(text, at, " ")
    seen, at = read_seen(text, seen_at)
    act, part_at = read_act(text, pass_over(text, at, " "))
    if seen[hand - 1] != number - 1:
        raise InvalidText(text, seen_at)
    if act[0] == "erase" and not ascends(act[1]):
        raise InvalidText(text, part_at)
    return (hand, number, seen, act)
