"""Random doings at desks and random things for desks to take."""

from tests.makers import NAMES, WORTHS, random_text, spoilt_act

WORDS = (("write",) * 8 + ("erase",) * 4 + ("mark",) * 2 + ("note", "block", "block", "move", "move", "drop")
         + ("undo",) * 3 + ("redo", "redo", "say", "say", "bar", "let", "settle", "settle", "settle"))


def told(call, *args):
    """What a call returns, or the error that it raises."""
    try:
        return ("returns", call(*args))
    except ValueError as error:
        return (type(error).__name__, tuple(sorted(vars(error).items())))


def random_doing(dice, desk):
    """A word of a doing and its arguments, mostly good ones; desk is one of either kind."""
    word = dice.choice(WORDS)
    if desk.hand != 1 and word in ("bar", "let", "settle") and dice.random() < 0.9:
        word = "say"
    blocks = [page[0] for page in desk.document()]
    known = sorted({(0, 0), (3, 1), (1, 9)} | set(blocks) | {deed[:2] for deed in desk_deeds(desk) if deed[3][0] == "block"})
    block = dice.choice(blocks if dice.random() < 0.9 else known)
    if word in ("write", "erase", "mark", "note"):
        length = len(desk.text(block)) if block in blocks else 3
        at = dice.randint(0, length) if dice.random() < 0.9 else dice.choice((-1, length, length + 1))
        many = max(1, min(dice.randint(1, 4), length - at)) if dice.random() < 0.9 else dice.choice((-1, 0, 8, 9, 30))
        if word == "write":
            return word, (block, at, random_text(dice, 3))
        if word == "erase":
            return word, (block, at, many)
        if word == "mark":
            return word, (block, at, many, dice.choice(NAMES), dice.choice(WORTHS))
        return word, (block, at, many, random_text(dice, 3))
    if word == "block":
        return word, (block, dice.choice([None] + known[:1] + blocks))
    if word == "move":
        return word, (dice.choice(known), block, dice.choice([None] + known))
    if word == "drop":
        return word, (dice.choice(known),)
    if word in ("undo", "redo"):
        return word, (dice.randint(-1 if dice.random() < 0.1 else 1, max(1, desk.clock()[desk.hand - 1] + dice.randint(0, 1))),)
    if word in ("bar", "let"):
        return word, (dice.choice((2, 3, 4, 2, 3, 4, 1, 5)),)
    return word, ()


def desk_deeds(desk):
    """The deeds that a desk still has."""
    return desk.book.deeds.values() if hasattr(desk, "book") else desk.has.values()


def spoilt_deed(dice, deed, deeds):
    """A deed like this one, but for something."""
    hand, number, seen, act = deed
    kind = dice.randrange(4)
    if kind == 0:
        return (hand, number, seen, dice.choice(list(deeds))[3])
    if kind == 1:
        return (hand, number, seen, spoilt_act(dice, act, list(deeds)))
    if kind == 2:
        at = dice.randrange(4)
        if at != hand - 1:
            seen = seen[:at] + (max(0, seen[at] + dice.choice((-1, 1))),) + seen[at + 1:]
        return (hand, number, seen, act)
    return dice.choice((list(deed), deed[:3], (5, 1, seen, act), (hand, True, seen, act), None, "say", (hand, number, seen, ("say", 1))))
