"""The promises in bold over the whole program: long runs of all kinds of steps against the plain model."""

import random
import unittest

from quillmoot.blocks import parent_block, vain_moves
from quillmoot.clocks import is_within, joined
from quillmoot.desks import Desk
from quillmoot.documents import document
from quillmoot.histories import clock_of, history_of, is_history, part, united
from quillmoot.logs import Log, replayed
from quillmoot.marks import marks_at
from quillmoot.rights import counts, is_settled
from quillmoot.rows import shown_signs
from quillmoot.seals import first_apart, chain_of, seal_of
from quillmoot.signs import let_go_signs, order_holds, order_paper, passed_signs, row_of
from quillmoot.snapshots import base_clock, desk_of, desk_snapshot, kept_signs, snapshot
from tests.desk_makers import random_doing, told
from tests.desk_model import model_of
from tests.makers import NOUGHT
from tests.net_model import PlainNet

ROOT = (0, 0)
HANDS = (1, 2, 3, 4)
CALMING = ((1, 2), (2, 3), (3, 4)) * 4
MOST = 22


def line_of(word, *told_args):
    """The line of a log that says this."""
    words = [word]
    for arg in told_args:
        words.append("-" if arg is None else ".".join(map(str, arg)) if isinstance(arg, tuple) else str(arg))
    return " ".join(words)


class Run:
    """A log and a plain net with the same steps, and all deeds that were done."""

    def __init__(self, test, dice, by_lines=False):
        self.test, self.dice, self.by_lines = test, dice, by_lines
        self.log, self.plain = Log(), PlainNet()
        self.done = []

    def desk(self, hand):
        return self.log.net.desk(hand)

    def known(self, hand):
        """The model of the deeds that the clock of a desk counts, whatever the desk says of them."""
        return model_of(deed for deed in self.done if deed[1] <= self.desk(hand).clock()[deed[0] - 1])

    def look(self):
        """Each desk shows what the model does of the deeds that its clock counts."""
        self.test.assertEqual(self.log.net.messages(), self.plain.messages())
        for hand in HANDS:
            desk, plain = self.desk(hand), self.plain.desk(hand)
            self.test.assertEqual(desk.clock(), plain.clock())
            self.test.assertEqual(desk.waiting(), plain.waiting())
            self.test.assertEqual(desk.document(), self.known(hand).document())

    def both(self, word, *args):
        """A line, and the same step at the plain net."""
        answer = self.log.run(line_of(word, *args))
        plain = getattr(self.plain, word)(*args)
        self.test.assertEqual(answer, {True: "yes", False: "no", None: ""}[plain])

    def doing(self, hand, word, *args):
        """A hand does something, and mostly posts it."""
        answer = told(self.plain.desk(hand).do, word, *args)
        if answer[0] == "returns" and (self.by_lines or self.dice.random() < 0.75):
            self.log.run(line_of(word, hand, *args))
            self.plain.post(answer[1])
        elif not self.by_lines:
            # past the log, as lines can not tell all that a call can, and kept back
            self.test.assertEqual(told(getattr(self.desk(hand), word), *args), answer)
        if answer[0] == "returns":
            self.done.append(answer[1])

    def meetings(self):
        """All desks come to have all deeds, and some of them then begin afresh."""
        self.both("unite")
        for a, b in CALMING:
            self.both("meet", a, b)
        self.test.assertIs(self.log.net.is_calm(), True)
        for hand in HANDS:
            if self.dice.random() < 0.2:
                self.both("fresh", hand)
        self.look()

    def going(self):
        """Something at the end of the root is taken away and settled, and all hear of it."""
        self.meetings()
        hand = self.dice.choice(HANDS)
        length = len(self.plain.desk(hand).text(ROOT))
        many = self.dice.randint(1, 3)
        self.doing(hand, "erase", ROOT, max(0, length - many), min(many, max(1, length)))
        self.meetings()
        self.doing(1, "settle")
        for _ in range(2):
            self.meetings()
            for hand in HANDS:
                self.doing(hand, "say")
            self.step()
            self.look()

    def step(self):
        kind = self.dice.random()
        many = len(self.plain.sent)
        if kind < 0.4 and len(self.done) < MOST and many < 60:
            hand = self.dice.choice(HANDS)
            word, args = random_doing(self.dice, self.plain.desk(hand))
            self.doing(hand, word, *args)
        elif kind < 0.7 and many:
            k = self.dice.randrange(many)
            self.both(self.dice.choice(("deliver",) * 8 + ("double", "lose", "put_off")), k)
        elif kind < 0.85:
            self.both("meet", self.dice.choice(HANDS), self.dice.choice(HANDS))
        elif kind < 0.93:
            self.both("fresh", self.dice.choice(HANDS))
        elif kind < 0.96:
            hand = self.dice.choice(HANDS)
            self.test.assertEqual(self.log.run(f"show {hand}"), self.known(hand).document_text())
        elif kind < 0.98:
            parts = [self.dice.randint(1, 2) for _ in HANDS]
            self.log.run(line_of("divide", *parts))
            self.plain.divide(parts)
        else:
            self.both("unite")


def random_run(test, dice, steps, by_lines=False):
    """A run of so many steps; of every second one the midst is that something goes."""
    run = Run(test, dice, by_lines)
    goes = dice.random() < 0.5
    for k in range(steps):
        if goes and (k == steps // 2 or len(run.done) == 10):
            run.going()
            goes = False
        else:
            run.step()
        run.look()
    return run


class Runs(unittest.TestCase):
    def runs(self, seed, many, steps):
        dice = random.Random(seed)
        for _ in range(many):
            yield dice, random_run(self, dice, steps)

    def test_against_the_plain_model(self):
        for _, run in self.runs(1, 40, 70):
            run.both("unite")
            for a, b in CALMING:
                run.both("meet", a, b)
            run.look()
            self.assertIs(run.log.net.is_calm(), True)
            self.assertEqual(run.desk(1).clock(), clock_of(run.done))
            self.assertEqual([run.desk(hand).document() for hand in HANDS], [document(run.done)] * 4)
            for hand in HANDS:
                self.assertEqual(desk_snapshot(run.desk(hand)), snapshot(run.done))

    def test_histories_of_runs(self):
        """What is promised of histories, for what the desks of a run have in its midst and all that was done."""
        bases = gone = 0
        for dice, run in self.runs(2, 25, 60):
            whole = history_of(run.done)
            bases += base_clock(whole) != NOUGHT
            gone += bool(let_go_signs(whole, ROOT))
            self.assertTrue(is_history(whole))
            clocks = [run.desk(hand).clock() for hand in HANDS]
            for clock in clocks + [joined(clocks[0], clocks[1]), joined(clocks[2], clocks[3])]:
                lesser = part(whole, clock)
                self.assert_parts(lesser, whole)
            self.assertEqual(united(part(whole, clocks[0]), part(whole, clocks[3])), part(whole, joined(clocks[0], clocks[3])))
            self.assert_whole(dice, whole)
        # the runs come as far as that something goes
        self.assertGreater(bases, 5)
        self.assertGreater(gone, 3)

    def assert_parts(self, lesser, whole):
        """What holds between a history and a greater one."""
        clock = clock_of(lesser)
        for deed in lesser:
            if is_settled(lesser, deed[:2]):
                self.assertIs(counts(whole, deed[:2]), counts(lesser, deed[:2]))
        for block in model_of(lesser).blocks():
            row = row_of(whole, block)
            self.assertEqual(row_of(lesser, block), tuple(sign for sign in row if sign[1] <= clock[sign[0] - 1]))
            gone = let_go_signs(lesser, block)
            self.assertLessEqual(set(gone), set(let_go_signs(whole, block)))
            for deed in whole:
                if deed not in lesser:
                    named = {part for part in deed[3] if part in gone}
                    self.assertEqual(named, set())
        base = base_clock(lesser)
        self.assertTrue(is_within(base, base_clock(whole)))
        self.assertEqual(part(whole, base), whole[:sum(base)])
        for hand in HANDS:
            self.assertIsNone(first_apart(chain_of(lesser, hand), chain_of(whole, hand)))

    def assert_whole(self, dice, whole):
        """What holds in a history."""
        plain = model_of(whole)
        for block in plain.blocks():
            row = row_of(whole, block)
            shown = shown_signs(whole, block)
            self.assertFalse(set(shown) & set(passed_signs(whole, block)))
            for sign in dice.sample(row, min(4, len(row))):
                self.assertEqual(marks_at(whole, sign), plain.marks_at(sign))
                other = dice.choice(row)
                if sign != other:
                    ahead = row.index(sign) < row.index(other)
                    paper = order_paper(whole, sign, other)
                    self.assertIs(order_holds(whole, sign, other, paper), ahead)
                    self.assertIs(order_holds(whole, other, sign, paper[::-1]), not ahead)
        for deed in whole:
            if deed[3][0] == "write":
                row = row_of(whole, deed[3][1])
                places = [row.index(deed[:2] + (k,)) for k in range(len(deed[3][4]))]
                ends = [row.index(place) if place is not None else end for place, end in zip(deed[3][2:4], (-1, len(row)))]
                self.assertEqual([ends[0]] + places + [ends[1]], sorted([ends[0]] + places + [ends[1]]))
        parents = plain.outline_rows()[0]
        for block in parents:
            self.assertEqual(parent_block(whole, block), parents[block])
        self.assertEqual(list(vain_moves(whole)), plain.outline()[2])

    def test_replayed(self):
        """Of runs in which all was done by lines."""
        dice = random.Random(3)
        for _ in range(20):
            run = random_run(self, dice, 60, True)
            other = replayed(run.log.lines)
            self.assertEqual((other.lines, other.net.messages()), (run.log.lines, run.log.net.messages()))
            for hand in HANDS:
                desk, again = run.desk(hand), other.net.desk(hand)
                self.assertEqual((again.clock(), again.waiting(), again.document()), (desk.clock(), desk.waiting(), desk.document()))
                self.assertEqual((kept_signs(again), desk_snapshot(again)), (kept_signs(desk), desk_snapshot(desk)))

    def test_what_was_typed_is_shown_once_or_not_at_all(self):
        for _, run in self.runs(4, 15, 50):
            whole = history_of(run.done)
            signs = [sign for block in model_of(whole).blocks() for sign in shown_signs(whole, block)]
            self.assertEqual(len(signs), len(set(signs)))
            taken = {sign for deed in whole if deed[3][0] == "erase" and counts(whole, deed[:2]) for sign in deed[3][1]}
            typed = {deed[:2] + (k,) for deed in whole if deed[3][0] == "write" and counts(whole, deed[:2]) for k in range(len(deed[3][4]))}
            self.assertEqual(set(signs), typed - taken)


class Messages(unittest.TestCase):
    """The same deeds in many ways."""

    def test_any_way_in_which_deeds_come(self):
        dice = random.Random(5)
        for _ in range(20):
            whole = history_of(random_run(self, dice, 50).done)
            for _ in range(3):
                desk = Desk(dice.choice(HANDS))
                deeds = list(whole) + dice.sample(whole, len(whole) // 2)
                for deed in dice.sample(deeds, len(deeds)):
                    desk.take(deed)
                    if dice.random() < 0.1:
                        # what waited is lost, and told once more at the end
                        desk = desk_of(desk_snapshot(desk), desk.hand)
                    self.assertEqual(desk.document(), document(part(whole, desk.clock())))
                for deed in whole:
                    desk.take(deed)
                self.assertEqual((desk.clock(), desk.waiting(), desk.document()), (clock_of(whole), (), document(whole)))
                self.assertEqual(kept_signs(desk), model_of(whole).kept_signs())
                self.assertEqual(desk_snapshot(desk), snapshot(whole))
            self.assertEqual(seal_of(whole), seal_of(whole[::-1]))

    def test_nothing_at_all(self):
        self.assertEqual(Desk(1).document(), document(()))
        self.assertEqual(desk_of(snapshot(()), 1).clock(), NOUGHT)


if __name__ == "__main__":
    unittest.main()
