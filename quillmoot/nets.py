"""Nets: four desks, and the messages that go between them."""

from quillmoot.books import HANDS
from quillmoot.deeds import id_of, is_deed
from quillmoot.desks import Desk
from quillmoot.errors import InvalidDeed, InvalidNumber, Misfit, Unlike
from quillmoot.forms import is_hand, is_number


def taken_if_right(desk, deed):
    """A desk takes a deed, or passes over it where it refuses it."""
    try:
        desk.take(deed)
    except (Misfit, Unlike):
        pass


def check_hand(hand):
    """Raise InvalidNumber unless this is a hand."""
    if not is_hand(hand):
        raise InvalidNumber(hand)


class Net:
    """A desk for each hand, the row of messages, and the part of the net in which each hand is."""

    def __init__(self):
        self.desks = {hand: Desk(hand) for hand in HANDS}
        # for each message to whom it goes, and the deed
        self.sent = []
        self.parts = (0, 0, 0, 0)

    def desk(self, hand):
        """The desk of a hand, itself."""
        check_hand(hand)
        return self.desks[hand]

    def seat(self, desk):
        """Have this desk in place of that of its hand."""
        self.desks[desk.hand] = desk

    def post(self, deed):
        """Send a deed to each other hand than its own."""
        if not is_deed(deed):
            raise InvalidDeed(deed)
        self.sent.extend([(hand, deed) for hand in HANDS if hand != deed[0]])

    def messages(self):
        """For each message to whom it goes, and the id of its deed."""
        return tuple([(hand, id_of(deed)) for hand, deed in self.sent])

    def check_message(self, k):
        """Raise InvalidNumber unless there is a message of this number."""
        if not is_number(k) or k >= len(self.sent):
            raise InvalidNumber(k)

    def can_meet(self, a, b):
        """Whether two hands are in one part."""
        return self.parts[a - 1] == self.parts[b - 1]

    def deliver(self, k):
        """Hand a message to the desk to which it goes, if that is in the part of the sender; whether it is."""
        self.check_message(k)
        hand, deed = self.sent[k]
        if not self.can_meet(hand, deed[0]):
            return False
        del self.sent[k]
        taken_if_right(self.desks[hand], deed)
        return True

    def double(self, k):
        """Put one more like this message at the end."""
        self.check_message(k)
        self.sent.append(self.sent[k])

    def lose(self, k):
        """Lose a message."""
        self.check_message(k)
        del self.sent[k]

    def put_off(self, k):
        """Put a message at the end."""
        self.check_message(k)
        message = self.sent[k]
        del self.sent[k]
        self.sent.append(message)

    def divide(self, parts):
        """Part the hands: those with equal integers stay together."""
        self.parts = tuple(parts)

    def unite(self):
        """Have all hands together."""
        self.parts = (0, 0, 0, 0)

    def meet(self, a, b):
        """Have two desks hand one another what they lack, if they are in one part; whether they are."""
        check_hand(a)
        check_hand(b)
        if not self.can_meet(a, b):
            return False
        one, two = self.desks[a], self.desks[b]
        # asked ahead, so that nothing is taken where one can not tell
        two.lacking(one.clock())
        one.lacking(two.clock())
        for giver, taker in ((two, one), (one, two)):
            for deed in giver.lacking(taker.clock()):
                taken_if_right(taker, deed)
        return True

    def is_calm(self):
        """Whether the clocks of all desks are alike."""
        return all([self.desks[hand].clock() == self.desks[1].clock() for hand in HANDS])
