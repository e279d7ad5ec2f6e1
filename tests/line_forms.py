"""The forms of a log's lines as the document tells them, by patterns."""

import re

NUMBER = "(?:0|[1-9][0-9]{0,5})"
HAND = "[1-4]"
BLOCK = r"(?:0\.0|[1-4]\.[1-9][0-9]{0,5})"
BEHIND = f"(?:-|{BLOCK})"
WORD = "[a-z]{1,8}"
WORTH = f"(?:-|{WORD})"
TEXT = "[a-z ]{1,8}"
KINDS = {"H": HAND, "B": BLOCK, "b": BEHIND, "N": NUMBER, "W": WORD, "w": WORTH, "T": TEXT}

FORMS = {
    "write": "HBNT", "erase": "HBNN", "mark": "HBNNWw", "note": "HBNNT", "block": "HBb", "move": "HBBb", "drop": "HB",
    "undo": "HN", "redo": "HN", "bar": "HH", "let": "HH", "settle": "H", "say": "H",
    "deliver": "N", "double": "N", "lose": "N", "put_off": "N", "divide": "NNNN", "unite": "", "meet": "HH",
    "fresh": "H", "show": "H",
}
DONE = ("write", "erase", "mark", "note", "block", "move", "drop", "undo", "redo", "bar", "let", "settle", "say")


def patterns_of(word):
    """For each word of a line that begins with this one the pattern of it."""
    return [re.escape(word)] + [KINDS[kind] for kind in FORMS[word]]


def is_right(line):
    """Whether a line is of one of the forms."""
    return any(re.fullmatch(" ".join(patterns_of(word)), line) for word in FORMS)


def fault_of(line):
    """The place that an InvalidText of this line tells, None for a right line."""
    if is_right(line):
        return None
    at = 0
    patterns = patterns_of(line.split(" ")[0]) if line.split(" ")[0] in FORMS else []
    for k, pattern in enumerate(patterns):
        # a text goes to the end of the line
        end = len(line) if pattern == TEXT or " " not in line[at:] else line.index(" ", at)
        if re.fullmatch(pattern, line[at:end]) is None:
            return at
        if end == len(line):
            # nothing is too much, so something is missing
            return end
        at = end + 1
    return at


def random_word(dice, kind, hand=None):
    """A right word of this kind."""
    number = str(dice.choice((0, 0, 1, 1, 2, 3, 5, 7, 10, 99, 123456, 999999)))
    block = dice.choice(("0.0", "0.0", f"{dice.randint(1, 4)}.{dice.randint(1, 12)}", "4.999999"))
    word = "".join(dice.choice("abcxyz") for _ in range(dice.randint(1, 8)))
    text = "".join(dice.choice("abcxyz  ") for _ in range(dice.randint(1, 8)))
    return {"H": hand or dice.choice("1234"), "B": block, "b": dice.choice((block, "-")), "N": number, "W": word,
            "w": dice.choice((word, "-")), "T": text}[kind]


def random_line(dice):
    """A right line."""
    word = dice.choice(list(FORMS))
    return " ".join([word] + [random_word(dice, kind) for kind in FORMS[word]])


def spoilt_line(dice, line):
    """A line like this one but for something; it may be right after all."""
    kind = dice.randrange(7)
    words = line.split(" ")
    at = dice.randrange(len(words))
    where = dice.randrange(len(line) + 1)
    if kind == 0:
        return " ".join(words[:at] + words[at + 1:])
    if kind == 1:
        return " ".join(words[:at] + [dice.choice(("", "1", "x", "0.0", "-"))] + words[at:])
    if kind == 2:
        return " ".join(words[:at] + [dice.choice(WRONG)] + words[at + 1:])
    if kind == 3:
        return line[:where] + dice.choice("0 1.-A\t\nz_") + line[where:]
    if kind == 4:
        return line[:where]
    if kind == 5:
        return line + dice.choice((" ", " 1", " x", "\n", "  "))
    return line[:where] + line[where + 1:]


WRONG = ("", "00", "01", "1234567", "0", "5", "-", "--", "-1", "+1", "1.0", "1.01", "1.1234567", "0.1", "5.1", "1.", ".1", "1.1.1", "1,1",
         "A", "aB", "abcdefghi", "a1", "a-", "1\t", "\n", "a\n", "write", "say", "None", "a_", "*")
