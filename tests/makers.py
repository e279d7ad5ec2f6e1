"""Histories for tests: told by hand, by dice, and spoilt."""

import random

from tests.model import ROOT, Model

NOUGHT = (0, 0, 0, 0)
NAMES = ("bold", "link", "size")
WORTHS = ("on", "off", "big", None)


class Table:
    """Desks of which each knows some of the deeds; what a hand does it does with what it knows."""

    def __init__(self):
        self.deeds = []
        self.clocks = {hand: NOUGHT for hand in (1, 2, 3, 4)}
        self.whole = Model([])

    def deed(self, hand, *act):
        """The deed that a hand would do."""
        seen = self.clocks[hand]
        return (hand, seen[hand - 1] + 1, seen, act)

    def do(self, hand, *act):
        """A hand does a deed; its id."""
        deed = self.deed(hand, *act)
        self.deeds.append(deed)
        self.whole = Model(self.deeds)
        self.clocks[hand] = deed[2][:hand - 1] + (deed[1],) + deed[2][hand:]
        return deed[:2]

    def learn(self, hand, *others):
        """A hand comes to know what others know."""
        for other in others:
            self.clocks[hand] = tuple(max(a, b) for a, b in zip(self.clocks[hand], self.clocks[other]))

    def meet(self, *hands):
        """These hands (all four if none is named) come to know what each of them knows."""
        hands = hands or (1, 2, 3, 4)
        for hand in hands:
            self.learn(hand, *hands)

    def write(self, hand, block, at, text):
        """A hand writes behind so many signs of the open row."""
        row = [None] + self.known(hand).open_row(block) + [None]
        return self.do(hand, "write", block, row[at], row[at + 1], text)

    def known(self, hand):
        return self.whole.part(self.clocks[hand])

    def round(self, *hands):
        """All hands say something, and all hear of it."""
        self.meet()
        for hand in hands or (1, 2, 3, 4):
            self.do(hand, "say")
        self.meet()

    def history(self):
        return tuple(self.deeds)


def random_text(dice, most):
    return "".join(dice.choice("abcdefgxyz ") for _ in range(dice.randint(1, most)))


def random_act(dice, model, hand, number, longest):
    """An act of one of the words that mostly fits, or None."""
    word = dice.choice(("write",) * 9 + ("erase",) * 5 + ("mark",) * 3 + ("note", "block", "block", "move", "move", "drop")
                       + ("undo",) * 3 + ("redo", "redo", "say") + ("bar", "let", "settle", "settle") * (3 if hand == 1 else 0))
    blocks = model.blocks()
    block = dice.choice(blocks)
    row = model.open_row(block)
    if word == "write":
        row = [None] + row + [None]
        at = dice.randrange(len(row) - 1)
        return (word, block, row[at], row[at + 1], random_text(dice, longest))
    if word in ("erase", "mark", "note"):
        if not row:
            return None
        first = dice.randrange(len(row))
        last = min(len(row) - 1, first + dice.randrange(5))
        if word == "erase":
            return (word, tuple(sorted(row[first:last + 1])))
        if word == "mark":
            return (word, row[first], row[last], dice.choice(NAMES), dice.choice(WORTHS))
        return (word, row[first], row[last], random_text(dice, 8))
    if word == "block":
        return (word, block, dice.choice([None] + blocks))
    if word == "move":
        return (word, block, dice.choice(blocks), dice.choice([None] + blocks)) if block != ROOT else None
    if word == "drop":
        return (word, block) if block != ROOT and dice.random() < 0.5 else None
    if word in ("undo", "redo"):
        return (word, dice.randint(1, number - 1)) if number > 1 else None
    if word in ("bar", "let"):
        return (word, dice.choice((2, 3, 4)))
    return (word,)


def random_table(dice, most, hands=(1, 2, 3, 4), longest=3, meeting=0.4):
    """A table at which up to so many deeds were done; meeting tells how often hands learn of one another."""
    table = Table()
    for _ in range(most * 3):
        if len(table.deeds) >= most:
            break
        hand = dice.choice(hands)
        if dice.random() < meeting:
            table.learn(hand, dice.choice(hands))
        if dice.random() < meeting * 0.15:
            table.meet()
        act = random_act(dice, table.known(hand), hand, table.clocks[hand][hand - 1] + 1, longest)
        if act is not None and table.known(hand).fits(table.deed(hand, *act)):
            table.do(hand, *act)
    return table


def random_settling(dice, most, hands=(1, 2, 3, 4), longest=3):
    """A table with much erasing, undoing and settling, at which hands mostly hear of one another."""
    table = Table()
    while len(table.deeds) < most:
        hand = dice.choice(hands)
        for other in hands:
            if dice.random() < 0.6:
                table.learn(hand, other)
        if hand == 1 and dice.random() < 0.6:
            act = ("settle",)
        elif dice.random() < 0.35:
            act = ("say",)
        else:
            act = random_act(dice, table.known(hand), hand, table.clocks[hand][hand - 1] + 1, longest)
        if act is None or act[0] in ("bar", "block", "move", "drop") and dice.random() < 0.7:
            continue
        if table.known(hand).fits(table.deed(hand, *act)):
            table.do(hand, *act)
    return table


def random_going(dice, most):
    """A table at which some signs are taken away and settled early, and hands then hear of it, one by one or not."""
    table = Table()

    def do(hand, *act):
        if len(table.deeds) < most and table.known(hand).fits(table.deed(hand, *act)):
            table.do(hand, *act)

    def some_act(hand):
        act = random_act(dice, table.known(hand), hand, table.clocks[hand][hand - 1] + 1, 2)
        if act is not None and act[0] not in ("bar", "move", "drop", "block"):
            do(hand, *act)

    sure = dice.choice((0.7, 0.85, 0.95, 1))
    do(1, "write", ROOT, None, None, random_text(dice, 3))
    for hand in (2, 3, 4):
        if dice.random() < sure:
            table.learn(hand, 1)
    for _ in range(dice.randint(1, 3)):
        some_act(dice.choice((1, 2, 3, 4)))
    taker = dice.choice((1, 2))
    table.learn(taker, 1)
    row = table.known(taker).open_row(ROOT)
    if row and dice.random() < 0.8:
        first = dice.randrange(len(row))
        do(taker, "erase", tuple(sorted(row[first:first + dice.randint(1, 3)])))
    else:
        do(1, "undo", 1)
    table.learn(1, *(hand for hand in (2, 3, 4) if dice.random() < sure))
    do(1, "settle")
    for _ in range(4):
        for hand in dice.sample((1, 2, 3, 4), 4):
            if dice.random() < sure:
                table.learn(hand, 1, 2, 3, 4)
            if dice.random() < 0.15:
                some_act(hand)
            else:
                do(hand, "say")
    return table


def random_stray(dice, most):
    """A table at which some hands do things early that the owner's first settle does not know of; then all hear of all.

    So much is let go that stands behind the base.
    """
    table = Table()

    def do(hand, *act):
        if len(table.deeds) < most and table.known(hand).fits(table.deed(hand, *act)):
            table.do(hand, *act)

    def write(hand, longest):
        row = [None] + table.known(hand).open_row(ROOT) + [None]
        at = dice.randrange(len(row) - 1)
        do(hand, "write", ROOT, row[at], row[at + 1], random_text(dice, longest))

    def take_away(hand):
        row = table.known(hand).open_row(ROOT)
        if row and dice.random() < 0.8:
            do(hand, "erase", tuple(sorted(dice.sample(row, min(len(row), dice.randint(1, 8))))))
        elif table.clocks[hand][hand - 1]:
            do(hand, "undo", dice.randint(1, table.clocks[hand][hand - 1]))

    for hand in dice.sample((1, 2, 3), dice.randint(0, 2)):
        write(hand, 2)
    strays = dice.sample((2, 3, 4), dice.randint(1, 2))
    others = [hand for hand in (1, 2, 3, 4) if hand not in strays]
    for hand in strays:
        do(hand, *dice.choice((("say",), ("write", ROOT, None, None, random_text(dice, 2)))))
    table.meet(*others)
    for _ in range(dice.randint(1, 4)):
        write(dice.choice(others), 3)
        if dice.random() < 0.7:
            table.meet(*others)
    row = table.known(others[-1]).open_row(ROOT)
    if row and dice.random() < 0.3:
        first = dice.randrange(len(row))
        do(others[-1], "mark", row[first], row[dice.randrange(first, len(row))], dice.choice(NAMES), dice.choice(WORTHS))
    for _ in range(dice.randint(1, 3)):
        table.meet(*others)
        take_away(dice.choice(others))
    table.meet(*others)
    do(1, "settle")
    for _ in range(3):
        table.meet()
        for hand in dice.sample((1, 2, 3, 4), 4):
            if dice.random() < 0.08:
                write(hand, 2)
            else:
                do(hand, "settle" if hand == 1 and dice.random() < 0.2 else "say")
    return table


def random_history(dice, most, **told):
    """A history by dice, mixed up."""
    kind = dice.random()
    if kind < 0.2 and not told:
        deeds = random_settling(dice, most).deeds
    elif kind < 0.35 and not told:
        deeds = random_stray(dice, most).deeds
    elif kind < 0.6 and not told:
        deeds = random_going(dice, most).deeds
    else:
        deeds = random_table(dice, most, meeting=dice.choice((0.1, 0.4, 0.8)), **told).deeds
    return tuple(dice.sample(deeds, len(deeds)))


def spoilt(dice, history):
    """A sequence of deeds that is a history but for something, or one after all."""
    deeds = list(history)
    kind = dice.randrange(6)
    at = dice.randrange(len(deeds))
    hand, number, seen, act = deeds[at]
    if kind == 0:
        del deeds[at]
    elif kind == 1:
        deeds.append(deeds[at])
    elif kind == 2:
        other = dice.randrange(4)
        if other != hand - 1:
            seen = seen[:other] + (max(0, seen[other] + dice.choice((-1, 1))),) + seen[other + 1:]
        deeds[at] = (hand, number, seen, act)
    elif kind == 3:
        deeds[at] = (hand, number, seen, dice.choice(deeds)[3])
    elif kind == 4:
        deeds[at] = (hand, number, seen, spoilt_act(dice, act, deeds))
    else:
        hand = dice.randint(1, 4)
        if seen[hand - 1] == number - 1:
            deeds[at] = (hand, number, seen, act)
    return tuple(deeds)


def spoilt_act(dice, act, deeds):
    """An act with one of its ids changed."""
    numbers = [deed[:2] for deed in deeds]
    if act[0] == "write":
        place = dice.choice([None] + [deed[:2] + (dice.randrange(3),) for deed in deeds])
        at = dice.choice((1, 2, 3))
        return act[:at] + ((dice.choice(numbers + [ROOT]),) if at == 1 else (place,)) + act[at + 1:]
    if act[0] == "erase":
        return ("erase", tuple(sorted(set(act[1][1:] + (dice.choice(numbers) + (dice.randrange(3),),)))))
    if act[0] in ("mark", "note"):
        if dice.random() < 0.5:
            return (act[0], act[2], act[1]) + act[3:]
        return (act[0], dice.choice(numbers) + (dice.randrange(3),)) + act[2:]
    if act[0] in ("block", "move", "drop"):
        at = dice.randrange(1, len(act))
        return act[:at] + (dice.choice(numbers + [ROOT]),) + act[at + 1:]
    if act[0] in ("undo", "redo"):
        return (act[0], dice.randint(1, 9))
    return dice.choice((("settle",), ("bar", 2), ("let", 3), ("undo", 1)))
