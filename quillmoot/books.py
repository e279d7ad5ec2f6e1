"""What follows from deeds that are a history, as they come one by one, each behind its past; without checks."""

from quillmoot.clocks import NOUGHT, is_within
from quillmoot.deeds import id_of
from quillmoot.standing import does_count, is_seen
from quillmoot.trees import Trees, signs_of

ROOT = (0, 0)
HANDS = (1, 2, 3, 4)
RULINGS = ("bar", "let")
TURNS = ("undo", "redo")


def note_names(names, signs, deed_id):
    """Write down that a deed names these signs."""
    for sign in signs:
        names.setdefault(sign, []).append(deed_id)


class Book:
    """Deeds with what their order, their rights and their signs hang on."""

    def __init__(self):
        self.clock = NOUGHT
        self.deeds = {}
        self.times = {}
        self.blocks = {ROOT: True}
        self.trees = Trees()
        self.settles = []
        # the bars and lets of each hand, and the undos and redos of each deed, by number
        self.rulings = {hand: [] for hand in HANDS}
        self.turns_of = {}
        # for each sign the erases that name it, and the marks and notes that do
        self.erasing = {}
        self.marking = {}
        # for each sign that is shut the number of the settle from which on it is
        self.shut = {}

    def seen_of(self, deed_id):
        """The clock that a deed has seen."""
        return self.deeds[deed_id][2]

    def last_seen(self, clock):
        """For each hand what the last of its deeds that a clock counts has seen; None where there is no deed."""
        return [self.seen_of((hand, many)) if many else None for hand, many in zip(HANDS, clock)]

    def is_cut(self, clock):
        """Whether the deeds that a clock counts are all there and closed."""
        if not is_within(clock, self.clock):
            return False
        return all([seen is None or is_within(seen, clock) for seen in self.last_seen(clock)])

    def in_turn(self, clock):
        """The deeds that a clock counts, by time and hand."""
        turns = sorted([(time, deed_id) for deed_id, time in self.times.items() if is_seen(clock, deed_id)])
        return tuple([self.deeds[deed_id] for _, deed_id in turns])

    def enter(self, deed):
        """Take in a deed whose past is there."""
        hand, number, seen, act = deed
        deed_id = id_of(deed)
        last = [self.times[(other, many)] for other, many in zip(HANDS, seen) if many]
        self.times[deed_id] = 1 + max([0] + last)
        self.deeds[deed_id] = deed
        self.clock = self.clock[:hand - 1] + (number,) + self.clock[hand:]
        word = act[0]
        if word == "block":
            self.blocks[deed_id] = True
        elif word == "write":
            self.trees.enter(deed)
        elif word == "erase":
            note_names(self.erasing, act[1], deed_id)
        elif word in ("mark", "note"):
            note_names(self.marking, act[1:3], deed_id)
        elif word in RULINGS:
            self.rulings[act[1]].append(deed)
        elif word in TURNS:
            self.turns_of.setdefault((hand, act[1]), []).append(deed)
        elif word == "settle":
            self.enter_settle(deed)

    def enter_settle(self, deed):
        """Take in a settle; what it settles counts or does not for good, so the first settle of it tells."""
        self.settles.append(deed)
        for deed_id, earlier in self.deeds.items():
            if is_seen(deed[2], deed_id):
                for sign in self.signs_taken(earlier):
                    self.shut.setdefault(sign, deed[1])

    def signs_taken(self, deed):
        """The signs that a settled deed takes away for good."""
        if deed[3][0] == "write" and not does_count(self, id_of(deed)):
            return signs_of(deed)
        if deed[3][0] == "erase" and does_count(self, id_of(deed)):
            return deed[3][1]
        return ()
