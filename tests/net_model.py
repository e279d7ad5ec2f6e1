"""A net of the document's section 12 done plainly: plain desks, and a list of messages."""

from quillmoot.deeds import is_deed
from quillmoot.errors import InvalidDeed, InvalidNumber, Misfit, Unlike
from tests.desk_model import PlainDesk

HANDS = (1, 2, 3, 4)


class PlainNet:
    """As quillmoot.nets.Net, but for seat; fresh is what the log's line of this name does."""

    def __init__(self):
        self.desks = {hand: PlainDesk(hand) for hand in HANDS}
        self.sent = []
        self.parts = (0, 0, 0, 0)

    def desk(self, hand):
        if hand not in HANDS:
            raise InvalidNumber(hand)
        return self.desks[hand]

    def post(self, deed):
        if not is_deed(deed):
            raise InvalidDeed(deed)
        self.sent += [(hand, deed) for hand in HANDS if hand != deed[0]]

    def messages(self):
        return tuple((hand, deed[:2]) for hand, deed in self.sent)

    def message(self, k):
        if not 0 <= k < len(self.sent):
            raise InvalidNumber(k)
        return self.sent[k]

    def give(self, hand, deed):
        try:
            self.desks[hand].take(deed)
        except (Misfit, Unlike):
            pass

    def deliver(self, k):
        hand, deed = self.message(k)
        if self.parts[hand - 1] != self.parts[deed[0] - 1]:
            return False
        self.sent.pop(k)
        self.give(hand, deed)
        return True

    def double(self, k):
        self.sent.append(self.message(k))

    def lose(self, k):
        self.message(k)
        self.sent.pop(k)

    def put_off(self, k):
        self.message(k)
        self.sent.append(self.sent.pop(k))

    def divide(self, parts):
        self.parts = tuple(parts)

    def unite(self):
        self.parts = (0, 0, 0, 0)

    def meet(self, a, b):
        one, two = self.desk(a), self.desk(b)
        if self.parts[a - 1] != self.parts[b - 1]:
            return False
        two.lacking(one.clock())
        one.lacking(two.clock())
        for deed in two.lacking(one.clock()):
            self.give(a, deed)
        for deed in one.lacking(two.clock()):
            self.give(b, deed)
        return True

    def is_calm(self):
        return len({self.desks[hand].clock() for hand in HANDS}) == 1

    def fresh(self, hand):
        self.desks[hand] = PlainDesk(hand, self.desks[hand].has.values(), False)
