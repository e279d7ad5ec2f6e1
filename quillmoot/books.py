"""What follows from deeds that are a history, as they come one by one, each behind its past; without checks."""

from quillmoot.clocks import NOUGHT, is_within, joined, stepped
from quillmoot.standing import does_count
from quillmoot.trees import Trees, signs_of

ROOT = (0, 0)
HANDS = (1, 2, 3, 4)
RULINGS = ("bar", "let")
TURNS = ("undo", "redo")


def note_names(names, signs, deed_id):
    """Write down that a deed names these signs."""
    for sign in signs:
        names.setdefault(sign, []).append(deed_id)


class Book:
    """Deeds with what their order, their rights and their signs hang on.

    A book may have begun with a snapshot. Then it has the deeds that a clock counts, its base, no more; what is left of
    them are the seen and the time of each, their blocks, bars and lets, and what the fields that are told last have.
    """

    def __init__(self):
        self.clock = NOUGHT
        self.deeds = {}
        # what the deeds of each hand have seen, and their times as far as they have been asked, both by number;
        # ahead of the first one stands what holds where there is none
        self.seens = ([NOUGHT], [NOUGHT], [NOUGHT], [NOUGHT])
        self.times = ([0], [0], [0], [0])
        self.blocks = {ROOT: True}
        self.trees = Trees()
        self.settles = []
        # the bars and lets of each hand, and the undos and redos of each deed, by number
        self.rulings = {}
        self.turns_of = {}
        # for each sign the erases that name it, and the marks and notes that do
        self.erasing = {}
        self.marking = {}
        # for each sign that is shut the number of the settle from which on it is
        self.shut = {}
        # of the base: the clock; the tree of blocks behind it; the marks and notes that count, in turn;
        # the signs that its marks and notes name; and the letter of each sign, None if it took that away
        self.base = NOUGHT
        self.base_outline = None
        self.base_marks = []
        self.base_named = {}
        self.base_letters = {}

    def seen_of(self, deed_id):
        """The clock that a deed has seen."""
        return self.seens[deed_id[0] - 1][deed_id[1]]

    def last_seen(self, clock):
        """For each hand what the last of its deeds that a clock counts has seen."""
        return [seens[many] for seens, many in zip(self.seens, clock)]

    def is_cut(self, clock):
        """Whether the deeds that a clock counts are all there and closed."""
        for seens, many in zip(self.seens, clock):
            if many and (many >= len(seens) or not is_within(seens[many], clock)):
                return False
        return True

    def time_behind(self, seen):
        """The time of a deed that has seen this."""
        one, two, three, four = self.times
        return 1 + max(one[seen[0]], two[seen[1]], three[seen[2]], four[seen[3]])

    def tell_times(self):
        """Work out the times that have not been asked yet."""
        # deeds have come behind their pasts, so this goes through them in the sequence in which they came
        for hand, number in self.deeds:
            if number == len(self.times[hand - 1]):
                self.times[hand - 1].append(self.time_behind(self.seens[hand - 1][number]))

    def turn_of(self, deed_id):
        """By what a deed has its turn: its time, its hand, its number."""
        self.tell_times()
        hand, number = deed_id
        return (self.times[hand - 1][number], hand, number)

    def in_turn(self, clock):
        """The deeds that a clock counts, but for the base, by time and hand."""
        self.tell_times()
        counted = [(hand, number) for hand, number in self.deeds if number <= clock[hand - 1]]
        turns = sorted([(self.times[hand - 1][number], hand, number) for hand, number in counted])
        return tuple([self.deeds[(hand, number)] for _, hand, number in turns])

    def enter_gone(self, hand, seen):
        """Take in that a deed of the base was there; these come in turn, ahead of all others."""
        number = seen[hand - 1] + 1
        self.times[hand - 1].append(self.time_behind(seen))
        self.seens[hand - 1].append(seen)
        self.clock = stepped(self.clock, hand, number)
        self.base = self.clock

    def enter_alone(self, deed):
        """Take in a deed whose past is there, but for what its act does."""
        hand, number, seen, _ = deed
        self.deeds[(hand, number)] = deed
        self.seens[hand - 1].append(seen)
        self.clock = stepped(self.clock, hand, number)

    def enter(self, deed):
        """Take in a deed whose past is there."""
        self.enter_alone(deed)
        hand, number, _, act = deed
        deed_id = (hand, number)
        word = act[0]
        if word == "write":
            self.trees.enter(deed)
        elif word == "block":
            self.blocks[deed_id] = True
        elif word == "erase":
            note_names(self.erasing, act[1], deed_id)
        elif word in ("mark", "note"):
            note_names(self.marking, act[1:3], deed_id)
        elif word in RULINGS:
            self.rulings.setdefault(act[1], []).append(deed)
        elif word in TURNS:
            self.turns_of.setdefault((hand, act[1]), []).append(deed)
        elif word == "settle":
            self.enter_settle(deed)

    def enter_settle(self, deed):
        """Take in a settle; what it settles counts or does not for good, so the first settle of it tells."""
        _, number, seen, _ = deed
        known = joined(self.base, self.settles[-1][2]) if self.settles else self.base
        self.settles.append(deed)
        for hand, first, last in zip(HANDS, known, seen):
            for earlier in range(first + 1, last + 1):
                for sign in self.signs_taken(self.deeds[(hand, earlier)]):
                    self.shut.setdefault(sign, number)

    def signs_taken(self, deed):
        """The signs that a settled deed takes away for good."""
        hand, number, _, act = deed
        if act[0] == "write" and not does_count(self, (hand, number)):
            return signs_of(deed)
        if act[0] == "erase" and does_count(self, (hand, number)):
            return act[1]
        return ()
