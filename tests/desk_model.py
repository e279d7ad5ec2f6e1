"""A desk of the document's section 11 done plainly and slowly: a dict of deeds, each question asked of the model."""

from quillmoot.errors import InvalidClock, InvalidDeed, InvalidNumber, Misfit, NoBlock, NotAllowed, Undefined, Unlike
from quillmoot.deeds import is_deed
from tests.model import ROOT, Model

# models of sets of deeds that were asked about; many desks come to have the same ones
KNOWN = {}


def model_of(deeds):
    """The model of these deeds."""
    key = frozenset(deeds)
    if key not in KNOWN:
        if len(KNOWN) > 200:
            KNOWN.clear()
        KNOWN[key] = Model(key)
    return KNOWN[key]


class PlainDesk:
    """As quillmoot.desks.Desk."""

    def __init__(self, hand, deeds=(), is_whole=True):
        self.hand = hand
        self.has = {deed[:2]: deed for deed in deeds}
        self.early = {}
        self.is_whole = is_whole
        self.base = [] if is_whole else [deed[:2] for deed in self.model().base()]

    def model(self):
        return model_of(self.has.values())

    def clock(self):
        return self.model().clock()

    def document(self):
        return self.model().document()

    def text(self, block):
        if not self.model().is_block(block):
            raise NoBlock(block)
        return self.model().text(block)

    def deeds(self):
        if not self.is_whole:
            raise Undefined("deeds")
        return tuple(self.model().turns())

    def waiting(self):
        return tuple(sorted(self.early))

    def lacking(self, clock):
        if not (isinstance(clock, tuple) and len(clock) == 4 and all(type(many) is int and many >= 0 for many in clock)):
            raise InvalidClock(clock)
        deeds = [deed for deed in self.model().turns() if deed[1] > clock[deed[0] - 1]]
        if any(deed[:2] in self.base for deed in deeds):
            raise Undefined("deeds")
        return tuple(deeds)

    def can_come(self, deed):
        clock = self.clock()
        return deed[1] == clock[deed[0] - 1] + 1 and all(a <= b for a, b in zip(deed[2], clock))

    def take(self, deed):
        if not is_deed(deed):
            raise InvalidDeed(deed)
        own = deed[:2]
        if own in self.early and self.early[own] != deed:
            raise Unlike(deed)
        if self.is_whole and own in self.has and self.has[own] != deed:
            raise Unlike(deed)
        if own in self.has or own in self.early:
            return ()
        if not self.can_come(deed):
            self.early[own] = deed
            return ()
        if not self.model().fits(deed):
            raise Misfit(deed)
        self.has[own] = deed
        come = [own]
        while True:
            able = sorted(key for key, early in self.early.items() if self.can_come(early))
            if not able:
                break
            early = self.early.pop(able[0])
            if self.model().fits(early):
                self.has[able[0]] = early
                come.append(able[0])
        self.early = {key: early for key, early in self.early.items() if key not in self.has}
        return tuple(come)

    def do(self, word, *told):
        """As the doing of this name with these arguments."""
        model = self.model()
        clock = model.clock()
        rulings = sorted((deed[1], deed[3][0]) for deed in model.of_word("bar", "let") if deed[3][1] == self.hand)
        if word in ("bar", "let", "settle"):
            if self.hand != 1:
                raise NotAllowed(word)
        elif word != "say" and rulings and rulings[-1][1] == "bar":
            raise NotAllowed(word)
        act = (word,) + told
        if word in ("write", "erase", "mark", "note"):
            act = self.typing(model, word, *told)
        elif word in ("block", "move", "drop"):
            for block in told:
                if block is not None and not model.is_block(block):
                    raise NoBlock(block)
                if word != "block" and block == told[0] == ROOT:
                    raise NoBlock(block)
        deed = (self.hand, clock[self.hand - 1] + 1, clock, act)
        if word in ("undo", "redo") and (told[0] < 1 or not model.fits(deed)):
            raise InvalidNumber(told[0])
        if word in ("bar", "let") and told[0] not in (2, 3, 4):
            raise InvalidNumber(told[0])
        self.take(deed)
        return deed

    def typing(self, model, word, block, at, *told):
        """The act of a write, erase, mark or note."""
        if not model.is_block(block) or block not in dict(model.shown_blocks()):
            raise NoBlock(block)
        shown = model.shown(block)
        if word == "write":
            if not 0 <= at <= len(shown):
                raise InvalidNumber(at)
            row = [None] + model.open_row(block) + [None]
            left = ([None] + shown)[at]
            return (word, block, left, row[row.index(left) + 1], told[0])
        if not 0 <= at < len(shown):
            raise InvalidNumber(at)
        many = told[0]
        if many < 1 or at + many > len(shown) or (word == "erase" and many > 8):
            raise InvalidNumber(many)
        signs = shown[at:at + many]
        if word == "erase":
            return (word, tuple(sorted(signs)))
        return (word, signs[0], signs[-1]) + told[1:]
