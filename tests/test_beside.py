"""Promise [29]: a desk that began with a snapshot beside one that has all deeds."""

import random
import unittest

from quillmoot.clocks import is_within, joined
from quillmoot.errors import Misfit
from quillmoot.histories import clock_of, history_of, part
from quillmoot.signs import let_go_signs, passed_signs
from quillmoot.snapshots import base_clock, desk_of, desk_snapshot, kept_signs, snapshot
from tests.desk_makers import random_doing, told
from tests.kept_makers import KEPT, barred, desk_with, gone_in_base, late_turns, rulings, shut_in_base
from tests.makers import NOUGHT, Table, random_going, random_settling, random_stray, random_table
from tests.model import Model

ROOT = (0, 0)
HANDS = (1, 2, 3, 4)


class Pair:
    """A desk that has all deeds of a history, and one that began with a snapshot of it."""

    def __init__(self, test, history, hand):
        self.test = test
        self.whole, self.begun = desk_with(hand, history), desk_of(snapshot(history), hand)

    def call(self, word, *args):
        """What both of them answer."""
        answer = told(getattr(self.whole, word), *args)
        self.test.assertEqual(told(getattr(self.begun, word), *args), answer, (word, args))
        return answer

    def look(self):
        """Whatever both show is alike."""
        for word in ("clock", "document", "waiting"):
            self.call(word)
        blocks = kept_signs(self.whole)
        self.test.assertEqual(kept_signs(self.begun), blocks)
        for block, _ in blocks:
            self.call("text", block)
        self.test.assertEqual(desk_snapshot(self.begun), desk_snapshot(self.whole))

    def begin_again(self):
        """The one that began with a snapshot begins with its own."""
        if not self.begun.waiting():
            self.begun = desk_of(desk_snapshot(self.begun), self.begun.hand)


def doings_at(desk):
    """Each kind of doing at every place of a desk, and a step beyond."""
    blocks = [block for block, _ in kept_signs(desk)] + [(4, 20)]
    for block in blocks:
        length = 3 if block == (4, 20) else len(desk.text(block))
        for at in range(-1, length + 2):
            yield "write", (block, at, "q")
            for many in {0, 1, 2, length - at, length - at + 1}:
                yield "erase", (block, at, many)
                yield "mark", (block, at, many, "bold", "off")
                yield "note", (block, at, many, "hm")
        yield "drop", (block,)
        for other in blocks + [None]:
            yield "block", (block, other)
            yield "move", (block, ROOT, other)
            yield "move", (blocks[-2], block, other)
    for n in range(0, desk.clock()[desk.hand - 1] + 2):
        yield "undo", (n,)
        yield "redo", (n,)
    for hand in range(6):
        yield "bar", (hand,)
        yield "let", (hand,)
    yield "settle", ()
    yield "say", ()


class Told(unittest.TestCase):
    def test_each_doing_at_every_place(self):
        for maker in KEPT:
            history = maker().history()
            for hand in (1, 2, 3):
                for word, args in doings_at(desk_with(hand, history)):
                    pair = Pair(self, history, hand)
                    if pair.call(word, *args)[0] == "returns":
                        pair.call("document")
                        self.assertEqual(kept_signs(pair.begun), kept_signs(pair.whole))
                pair.look()

    def test_what_the_histories_have(self):
        """The makers make what this file is about."""
        gone = [len(let_go_signs(maker().history(), ROOT)) for maker in KEPT]
        passed = [len(passed_signs(maker().history(), ROOT)) for maker in KEPT]
        self.assertEqual(gone, [2, 0, 1, 0, 0, 3, 2, 1, 0])
        self.assertEqual(passed, [2, 2, 1, 0, 3, 3, 2, 1, 0])
        for maker in KEPT:
            self.assertNotEqual(base_clock(maker().history()), NOUGHT)

    def test_typing_beside_signs_that_are_let_go(self):
        pair = Pair(self, gone_in_base().history(), 3)
        self.assertEqual(pair.call("write", ROOT, 4, "q")[1][3], ("write", ROOT, (1, 1, 3), None, "q"))
        self.assertEqual(pair.call("text", ROOT)[1], "abcdq")
        pair.look()

    def test_marks_and_notes_that_name_shut_signs(self):
        pair = Pair(self, shut_in_base().history(), 3)
        # the mark is on ab, of which nothing is shown; what is typed between is marked
        deed = (4, 4, pair.whole.clock(), ("write", ROOT, (1, 1, 0), (1, 1, 1), "q"))
        pair.call("take", deed)
        self.assertEqual(pair.call("document")[1][0][2], (("q", (("bold", "on"),)), ("xyg", ())))
        # they can be named still, as they are not passed
        for k in range(6):
            deed = (4, 5 + k, pair.whole.clock(), ("note", (1, 1, 0), (1, 1, k), "so"))
            self.assertEqual(pair.call("take", deed), ("returns", ((4, 5 + k),)))
        deed = (2, 5, pair.whole.clock(), ("mark", (1, 1, 7), (1, 1, 7), "bold", "on"))
        self.assertEqual(pair.call("take", deed), ("Misfit", (("deed", deed),)))
        pair.look()

    def test_late_undos(self):
        pair = Pair(self, late_turns().history(), 2)
        for n in range(1, 7):
            for word in ("undo", "redo"):
                answer = pair.call(word, n)
                self.assertEqual(answer[0], "returns" if n == 6 else "InvalidNumber")
        self.assertEqual(pair.call("text", ROOT)[1], "xyzbc")
        pair.look()

    def test_bars_and_lets(self):
        for hand in (2, 3, 4):
            pair = Pair(self, rulings().history(), hand)
            answer = pair.call("write", ROOT, 0, "q")
            self.assertEqual(answer[0], "NotAllowed" if hand == 2 else "returns")
            pair.call("say")
            pair.call("take", (1, 7, (6, 2, 2, 3), ("let", 2)))
            pair.call("take", (1, 8, (7, 2, 2, 3), ("bar", 4)))
            pair.call("write", ROOT, 0, "r")
            pair.look()
        for hand, answer in ((1, "returns"), (2, "returns"), (3, "NotAllowed"), (4, "returns")):
            pair = Pair(self, barred().history(), hand)
            pair.begin_again()
            self.assertEqual(pair.call("write", ROOT, 0, "q")[0], answer)
            clock = pair.whole.clock()
            pair.call("take", (3, clock[2] + 1, clock, ("drop", ROOT)))
            pair.call("take", (1, clock[0] + 1, clock, ("let", 3)))
            self.assertEqual(pair.call("write", ROOT, 0, "q")[0], "returns")
            pair.look()

    def test_what_does_not_fit(self):
        """Deeds that name signs or blocks that are not there, let go or settled; each raises the same."""
        for maker in KEPT:
            history = maker().history()
            signs = Model(history).row(ROOT) + [(1, 1, 9)]
            clock = clock_of(history)
            acts = [("erase", (sign,)) for sign in signs] + [("mark", sign, sign, "bold", "on") for sign in signs]
            acts += [("write", ROOT, left, right, "q") for left in [None] + signs for right in [None] + signs]
            acts += [("undo", n) for n in range(1, clock[1] + 2)] + [("drop", ROOT), ("move", (1, 1), ROOT, None), ("settle",)]
            for act in acts:
                pair = Pair(self, history, 1)
                pair.call("take", (2, clock[1] + 1, clock, act))
                # and the same, where it had to wait
                pair.call("take", (4, clock[3] + 2, clock[:3] + (clock[3] + 1,), act))
                pair.call("take", (4, clock[3] + 1, clock, ("say",)))
                pair.call("clock")
                pair.call("document")
        with self.assertRaises(Misfit):
            desk_of(snapshot(gone_in_base().history()), 1).take((2, 5, (5, 4, 3, 3), ("erase", ((1, 1, 5),))))

    def test_undefined_just_where_it_is_told(self):
        for maker in KEPT:
            pair = Pair(self, maker().history(), 2)
            base = base_clock(maker().history())
            for clock in (NOUGHT, base, joined(base, (9, 0, 0, 9)), pair.whole.clock(), (1, 0, 0, 0)):
                if is_within(base, clock):
                    pair.call("lacking", clock)
                else:
                    self.assertEqual(told(pair.begun.lacking, clock), ("Undefined", (("what", "deeds"),)))
            pair.call("lacking", None)
            self.assertEqual(told(pair.begun.deeds), ("Undefined", (("what", "deeds"),)))


class ByDice(unittest.TestCase):
    def random_greater(self, dice):
        """A history by dice and a part of it, perhaps itself."""
        maker = dice.choice((random_going, random_stray, random_stray, random_settling, random_table))
        history = history_of(maker(dice, dice.randint(8, 22)).deeds)
        cuts = [deed[2] for deed in history] + [clock_of(history)] * 4
        return part(history, joined(dice.choice(cuts), dice.choice(cuts))), history

    def others_doing(self, dice, pair):
        """Some hand does something elsewhere, knowing all that there is, and it comes."""
        hand = dice.choice(HANDS)
        elsewhere = Pair(self, pair.whole.deeds(), hand)
        word, args = random_doing(dice, elsewhere.whole)
        answer = elsewhere.call(word, *args)
        if answer[0] == "returns":
            pair.call("take", answer[1])

    def step(self, dice, pair, deeds):
        kind = dice.random()
        many = sum(pair.whole.clock())
        if kind < 0.5 and deeds:
            # late ones, early ones, and some twice
            deed = dice.choice(deeds)
            pair.call("take", deed)
            if dice.random() < 0.6:
                deeds.remove(deed)
        elif kind < 0.7 and many < 24:
            self.others_doing(dice, pair)
        elif kind < 0.9 and many < 24:
            word, args = random_doing(dice, pair.whole)
            pair.call(word, *args)
        elif kind < 0.95:
            pair.begin_again()
        else:
            pair.call("take", dice.choice((None, 7, (1, 1), (5, 1, NOUGHT, ("say",)))))

    def test_by_dice(self):
        dice = random.Random(29)
        bases = gone = 0
        for _ in range(250):
            lesser, greater = self.random_greater(dice)
            pair = Pair(self, lesser, dice.choice(HANDS))
            bases += base_clock(lesser) != NOUGHT
            gone += bool(let_go_signs(lesser, ROOT))
            pair.look()
            # those that are there already come once more, too; of what is done here, nothing stands in the greater one
            deeds = [deed for deed in greater if deed not in lesser] + dice.sample(lesser, min(2, len(lesser)))
            deeds = [deed for deed in deeds if deed[0] != pair.whole.hand or deed in lesser]
            step = self.feed if any(deed not in lesser for deed in deeds) else self.step
            for _ in range(12):
                step(dice, pair, deeds)
                pair.look()
        self.assertGreater(bases, 50)
        self.assertGreater(gone, 15)

    def feed(self, dice, pair, deeds):
        """What comes from the greater history, and doings of the own hand, of which nobody else knows."""
        kind = dice.random()
        if kind < 0.65:
            pair.call("take", dice.choice(deeds))
        elif kind < 0.9 and sum(pair.whole.clock()) < 24:
            word, args = random_doing(dice, pair.whole)
            pair.call(word, *args)
        else:
            pair.begin_again()

    def test_longer_runs(self):
        """From one snapshot to the next, with settles and says all along."""
        dice = random.Random(291)
        gone = 0
        for _ in range(25):
            table = Table()
            pair = Pair(self, (), 1)
            while len(table.deeds) < 24:
                hand = dice.choice(HANDS)
                if dice.random() < 0.9:
                    table.meet()
                known = table.known(hand)
                row = known.open_row(ROOT)
                act = dice.choice((("say",),) * 3 + (("write",), ("erase",), ("undo",)) + ((("settle",),) * 6 if hand == 1 else ()))
                if act == ("write",):
                    table.write(hand, ROOT, dice.randint(0, len(row)), dice.choice(("a", "bc", "def")))
                elif act == ("erase",) and row:
                    table.do(hand, "erase", tuple(sorted(row[-dice.randint(1, 3):])))
                elif act == ("undo",) and known.fits(table.deed(hand, "undo", 1)):
                    table.do(hand, "undo", 1)
                elif len(act) == 1 and act[0] in ("say", "settle"):
                    table.do(hand, *act)
                else:
                    continue
                pair.call("take", table.deeds[-1])
                pair.look()
                if dice.random() < 0.5:
                    pair.begin_again()
            gone += bool(let_go_signs(table.history(), ROOT))
        self.assertGreater(gone, 2)


if __name__ == "__main__":
    unittest.main()
