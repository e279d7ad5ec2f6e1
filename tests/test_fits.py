"""Promise [9]: which deeds fit a history."""

import itertools
import random
import unittest

from quillmoot.errors import InvalidHistory
from quillmoot.histories import clock_of, fits, is_history
from tests.makers import NOUGHT, Table, random_act, random_history, spoilt_act
from tests.model import Model

ROOT = (0, 0)
SAY = ("say",)
WORDS = ("write", "erase", "mark", "note", "block", "move", "drop", "undo", "redo", "bar", "let", "settle", "say")


def sample():
    """A table at which all four hands did something and know all."""
    table = Table()
    table.write(1, ROOT, 0, "abcd")            # 1.1
    table.do(1, "block", ROOT, None)           # 1.2
    table.do(1, "block", (1, 2), None)         # 1.3
    table.meet()
    table.write(2, (1, 2), 0, "xy")            # 2.1
    table.do(2, "mark", (1, 1, 0), (1, 1, 1), "bold", "on")    # 2.2
    table.do(3, "say")                         # 3.1
    table.do(4, "move", (1, 3), ROOT, (1, 2))  # 4.1
    table.meet()
    return table


class Fits(unittest.TestCase):
    def setUp(self):
        self.table = sample()

    def deed(self, hand, act, clock=None):
        seen = clock or self.table.clocks[hand]
        return (hand, seen[hand - 1] + 1, seen, act)

    def assert_fits(self, hand, *act, clock=None):
        self.assert_told(hand, act, clock, True)

    def assert_misfit(self, hand, *act, clock=None):
        self.assert_told(hand, act, clock, False)

    def assert_told(self, hand, act, clock, told):
        deed = self.deed(hand, act, clock)
        history = self.table.history()
        with self.subTest(deed=deed):
            self.assertIs(fits(history, deed), told)
            self.assertIs(fits(history=list(history[::-1]), deed=deed), told)
            self.assertIs(Model(history).fits(deed), told)
            if not clock:
                self.assertIs(is_history(history + (deed,)), told)

    def pairs(self, hand, block, clock=None):
        """The pairs of places between which this hand can write."""
        whole = self.table.whole
        places = [None] + sorted(whole.signs())
        return {(a, b) for a, b in itertools.product(places, repeat=2)
                if fits(self.table.history(), self.deed(hand, ("write", block, a, b, "q"), clock))}


class EachWord(Fits):
    def test_each_word_by_each_hand_that_may(self):
        for hand in (1, 2, 3, 4):
            self.assert_fits(hand, "write", ROOT, (1, 1, 0), (1, 1, 1), "q")
            self.assert_fits(hand, "erase", ((1, 1, 0), (2, 1, 1)))
            self.assert_fits(hand, "mark", (1, 1, 0), (1, 1, 3), "bold", None)
            self.assert_fits(hand, "note", (2, 1, 0), (2, 1, 1), "so")
            self.assert_fits(hand, "block", (1, 3), (1, 2))
            self.assert_fits(hand, "move", (1, 2), (1, 3), None)
            self.assert_fits(hand, "drop", (1, 3))
            self.assert_fits(hand, "say")
        for word in ("undo", "redo"):
            self.assert_fits(1, word, 3)
            self.assert_fits(2, word, 1)
            self.assert_fits(4, word, 1)
        for act in (("bar", 2), ("bar", 4), ("let", 3), ("settle",)):
            self.assert_fits(1, *act)

    def test_an_empty_history(self):
        for act in (("write", ROOT, None, None, "a"), ("block", ROOT, None), ("block", ROOT, ROOT), SAY):
            for hand in (1, 2, 3, 4):
                self.assertIs(fits((), (hand, 1, NOUGHT, act)), True)
        for act in (("erase", ((1, 1, 0),)), ("mark", (1, 1, 0), (1, 1, 0), "a", None), ("note", (1, 1, 0), (1, 1, 0), "a"),
                    ("block", (1, 1), None), ("block", ROOT, (1, 1)), ("move", (1, 1), ROOT, None), ("drop", (1, 1)),
                    ("undo", 1), ("redo", 1), ("write", (1, 1), None, None, "a"), ("write", ROOT, None, (1, 1, 0), "a"),
                    ("write", ROOT, (1, 1, 0), None, "a"), ("drop", ROOT), ("move", ROOT, ROOT, None)):
            for hand in (1, 2, 3, 4):
                self.assertIs(fits((), (hand, 1, NOUGHT, act)), False)
        for act in (("bar", 2), ("let", 3), ("settle",)):
            self.assertEqual([fits((), (hand, 1, NOUGHT, act)) for hand in (1, 2, 3, 4)], [True, False, False, False])

    def test_seen_is_a_cut(self):
        whole = self.table.clocks[3]
        for seen in ((4, 2, 1, 1), (3, 3, 1, 1), (3, 2, 1, 2), (999999, 2, 1, 1), (0, 1, 1, 1), (2, 2, 1, 1), (0, 0, 1, 0)):
            self.assert_misfit(3, "say", clock=seen)
        for seen in (whole, (3, 0, 1, 0), (3, 1, 1, 0), (3, 0, 0, 0), NOUGHT, (1, 0, 0, 0), (3, 2, 0, 1)):
            self.assert_fits(3, "say", clock=seen)
        # the own deeds ahead are not there
        self.assert_misfit(3, "say", clock=(3, 2, 2, 1))
        self.assertIs(fits((), (1, 2, (1, 0, 0, 0), SAY)), False)

    def test_an_id_that_is_there_already(self):
        for deed in self.table.deeds:
            self.assertIs(fits(self.table.history(), deed), True)
            self.assertIs(fits(self.table.history(), deed[:3] + (SAY,)), True)
            self.assertIs(fits(self.table.history(), deed[:3] + (("drop", ROOT),)), False)


class Writes(Fits):
    def test_neighbours_of_the_row(self):
        a, b, c, d = [(1, 1, k) for k in range(4)]
        x, y = (2, 1, 0), (2, 1, 1)
        for hand in (1, 2, 3, 4):
            self.assertEqual(self.pairs(hand, ROOT), {(None, a), (a, b), (b, c), (c, d), (d, None)})
            self.assertEqual(self.pairs(hand, (1, 2)), {(None, x), (x, y), (y, None)})
            self.assertEqual(self.pairs(hand, (1, 3)), {(None, None)})

    def test_what_is_no_block(self):
        for block in ((1, 1), (2, 1), (1, 4), (4, 1), (4, 9), (3, 1)):
            self.assertEqual(self.pairs(3, block), set())

    def test_a_sign_that_is_not_there(self):
        for place in ((1, 1, 4), (1, 2, 0), (2, 1, 2), (4, 1, 0), (1, 9, 0), (1, 1, 999999)):
            for block in (ROOT, (1, 2), (1, 3)):
                self.assert_misfit(3, "write", block, place, None, "q")
                self.assert_misfit(3, "write", block, None, place, "q")
                self.assert_misfit(3, "write", block, (1, 1, 0), place, "q")

    def test_erased_undone_and_barred_signs_stay_open(self):
        self.table.do(2, "erase", ((1, 1, 1), (1, 1, 2)))
        self.table.do(2, "undo", 1)
        self.table.do(1, "bar", 2)
        self.table.meet()
        self.assertEqual(len(self.pairs(3, ROOT)), 5)
        self.assertEqual(len(self.pairs(3, (1, 2))), 3)
        self.assert_misfit(3, "write", ROOT, (1, 1, 0), (1, 1, 3), "q")

    def test_a_block_that_does_not_count_or_is_dropped(self):
        self.table.do(1, "undo", 2)
        self.table.do(1, "drop", (1, 3))
        self.table.meet()
        self.assertEqual(len(self.pairs(3, (1, 2))), 3)
        self.assertEqual(len(self.pairs(3, (1, 3))), 1)
        self.assert_fits(3, "block", (1, 2), (1, 3))
        self.assert_fits(3, "move", (1, 2), (1, 3), (1, 2))
        self.assert_fits(3, "drop", (1, 3))

    def test_by_what_the_deed_knows(self):
        # three knows of the first sign row alone, where somebody has typed between two of its signs since
        self.table.write(4, ROOT, 2, "z")
        z = (4, 2, 0)
        self.table.meet(1, 2, 4)
        self.assert_fits(3, "write", ROOT, (1, 1, 1), (1, 1, 2), "q")
        self.assert_misfit(3, "write", ROOT, (1, 1, 1), z, "q")
        self.assert_misfit(4, "write", ROOT, (1, 1, 1), (1, 1, 2), "q")
        self.assert_fits(4, "write", ROOT, (1, 1, 1), z, "q")
        self.assert_fits(4, "write", ROOT, z, (1, 1, 2), "q")
        self.assert_misfit(3, "erase", (z,))
        # at the clock of the first deed alone there is one block
        self.assertEqual(len(self.pairs(3, ROOT, (1, 0, 0, 0))), 5)
        self.assertEqual(self.pairs(3, (1, 2), (1, 0, 0, 0)), set())
        self.assertEqual(self.pairs(3, (1, 2), (2, 0, 0, 0)), {(None, None)})
        self.assertEqual(self.pairs(3, ROOT, NOUGHT), {(None, None)})

    def test_passed_signs_are_skipped(self):
        table = self.table
        table.do(1, "erase", ((1, 1, 2), (1, 1, 3)))
        table.do(1, "settle")
        table.round()
        a, b, c, d = [(1, 1, k) for k in range(4)]
        self.assertEqual(self.pairs(2, ROOT), {(None, a), (a, b), (b, None)})
        for sign in (c, d):
            self.assert_misfit(2, "erase", (sign,))
            self.assert_misfit(2, "mark", sign, sign, "bold", None)
            self.assert_misfit(2, "note", b, sign, "so")
            self.assert_misfit(2, "erase", (b, sign))
        self.assert_fits(2, "erase", (b,))
        # a hand that does not know that they are passed
        self.assert_fits(3, "write", ROOT, b, c, "q", clock=(3, 2, 1, 1))
        self.assert_misfit(3, "write", ROOT, b, None, "q", clock=(3, 2, 1, 1))
        self.assert_fits(3, "erase", (c,), clock=(5, 2, 1, 1))

    def test_signs_that_are_passed_by_what_the_deed_knows(self):
        # four knows that d is shut, but not that three knows, too, and types behind it
        table = self.table = Table()
        table.write(1, ROOT, 0, "abcd")
        table.do(1, "erase", ((1, 1, 3),))
        table.do(1, "settle")
        table.meet()
        table.do(2, "say")
        table.do(4, "say")
        table.write(4, ROOT, 4, "x")
        table.do(3, "say")
        table.do(1, "say")
        passed, opened = (4, 1, 1, 1), (4, 1, 1, 2)
        for clock, told in ((passed, False), (opened, True)):
            for act in (("erase", ((1, 1, 3),)), ("mark", (1, 1, 3), (1, 1, 3), "bold", "on"), ("note", (1, 1, 0), (1, 1, 3), "so"),
                        ("write", ROOT, (1, 1, 2), (1, 1, 3), "q")):
                self.assert_told(1, act, clock, told)
            self.assert_told(1, ("write", ROOT, (1, 1, 2), None, "q"), clock, not told)
        self.assert_fits(1, "write", ROOT, (4, 2, 0), None, "q", clock=opened)


class ErasesMarksNotes(Fits):
    def test_signs_of_several_blocks(self):
        self.assert_fits(3, "erase", ((1, 1, 0), (1, 1, 3), (2, 1, 0), (2, 1, 1)))
        self.assert_fits(3, "erase", ((2, 1, 1),))
        for sign in ((1, 1, 4), (1, 2, 0), (2, 1, 2), (3, 1, 0), (4, 9, 0), (2, 2, 0)):
            self.assert_misfit(3, "erase", (sign,))
            self.assert_misfit(3, "erase", tuple(sorted([(1, 1, 0), sign])))

    def test_ends_turned_round(self):
        for word, more in (("mark", ("bold", "on")), ("note", ("so",))):
            for k in range(4):
                for last in range(4):
                    told = self.assert_fits if k <= last else self.assert_misfit
                    told(3, word, (1, 1, k), (1, 1, last), *more)

    def test_ends_of_two_blocks_and_unknown_ones(self):
        for word, more in (("mark", ("bold", "on")), ("note", ("so",))):
            self.assert_misfit(3, word, (1, 1, 0), (2, 1, 0), *more)
            self.assert_misfit(3, word, (2, 1, 0), (1, 1, 3), *more)
            for sign in ((1, 1, 4), (1, 2, 0), (4, 1, 0), (4, 7, 0)):
                self.assert_misfit(3, word, sign, sign, *more)
                self.assert_misfit(3, word, (1, 1, 0), sign, *more)
                self.assert_misfit(3, word, sign, (1, 1, 0), *more)

    def test_behind_goes_by_the_row_and_not_by_the_ids(self):
        self.table.write(2, ROOT, 0, "z")
        self.table.meet()
        self.assert_fits(3, "mark", (2, 3, 0), (1, 1, 0), "bold", "on")
        self.assert_misfit(3, "note", (1, 1, 0), (2, 3, 0), "so")

    def test_signs_that_are_not_shown_stand_in_open_rows(self):
        self.table.do(2, "erase", ((1, 1, 1),))
        self.table.do(2, "undo", 1)
        self.table.meet()
        self.assert_fits(3, "erase", ((1, 1, 1), (2, 1, 0)))
        self.assert_fits(3, "mark", (1, 1, 1), (1, 1, 1), "bold", "on")
        self.assert_fits(3, "note", (2, 1, 0), (2, 1, 1), "so")


class Blocks(Fits):
    def test_ids_that_are_no_blocks(self):
        for wrong in ((1, 1), (2, 1), (1, 4), (4, 1), (3, 1), (4, 999999)):
            self.assert_misfit(3, "block", wrong, None)
            self.assert_misfit(3, "block", ROOT, wrong)
            self.assert_misfit(3, "move", wrong, ROOT, None)
            self.assert_misfit(3, "move", (1, 2), wrong, None)
            self.assert_misfit(3, "move", (1, 2), ROOT, wrong)
            self.assert_misfit(3, "drop", wrong)

    def test_the_root(self):
        self.assert_fits(3, "block", ROOT, ROOT)
        self.assert_fits(3, "move", (1, 2), ROOT, ROOT)
        self.assert_misfit(3, "move", ROOT, (1, 2), None)
        self.assert_misfit(3, "move", ROOT, ROOT, None)
        self.assert_misfit(3, "drop", ROOT)

    def test_below_itself_fits(self):
        self.assert_fits(3, "move", (1, 2), (1, 2), None)
        self.assert_fits(3, "move", (1, 2), (1, 3), (1, 2))
        self.assert_fits(3, "block", (1, 2), (1, 2))

    def test_blocks_that_are_not_known(self):
        self.table.do(4, "block", (1, 2), None)
        self.assert_fits(4, "drop", (4, 2))
        for act in (("drop", (4, 2)), ("move", (4, 2), ROOT, None), ("move", (1, 2), (4, 2), None), ("move", (1, 2), ROOT, (4, 2)),
                    ("block", (4, 2), None), ("block", ROOT, (4, 2)), ("write", (4, 2), None, None, "a")):
            self.assert_misfit(3, *act)
        self.table.learn(3, 4)
        self.assert_fits(3, "write", (4, 2), None, None, "a")
        self.assert_misfit(3, "drop", (1, 3), clock=(2, 0, 1, 0))


class Undos(Fits):
    def test_what_can_be_undone(self):
        table = Table()
        table.write(1, ROOT, 0, "ab")
        for act in (("erase", ((1, 1, 0),)), ("mark", (1, 1, 0), (1, 1, 1), "a", None), ("note", (1, 1, 0), (1, 1, 1), "a"),
                    ("block", ROOT, None), ("move", (1, 5), ROOT, None), ("drop", (1, 5)), ("undo", 1), ("redo", 1), ("bar", 2),
                    ("let", 2), SAY):
            table.do(1, *act)
        self.table = table
        for word in ("undo", "redo"):
            for n in range(1, 8):
                self.assert_fits(1, word, n)
            for n in (8, 9, 10, 11, 12, 13, 14, 999999):
                self.assert_misfit(1, word, n)
        table.do(1, "settle")
        for word in ("undo", "redo"):
            for n in range(1, 15):
                self.assert_misfit(1, word, n)

    def test_the_number_is_below_the_deeds_own(self):
        self.assert_fits(2, "undo", 2)
        self.assert_misfit(2, "undo", 3)
        self.assert_misfit(2, "redo", 4)
        # it is the hand's own deed, not another one's of this number
        self.assert_misfit(3, "undo", 1)
        self.assert_misfit(3, "undo", 2)
        self.assert_misfit(4, "undo", 2)

    def test_twice_and_redo_without_undo(self):
        self.assert_fits(2, "redo", 1)
        self.table.do(2, "undo", 1)
        self.assert_fits(2, "undo", 1)
        self.assert_misfit(2, "undo", 3)
        self.table.do(2, "undo", 1)
        self.assert_fits(2, "redo", 1)

    def test_settled_by_what_the_deed_knows(self):
        self.table.do(1, "settle")
        self.assert_misfit(1, "undo", 1)
        self.assert_fits(2, "undo", 1)
        self.table.learn(2, 1)
        for n in (1, 2):
            for word in ("undo", "redo"):
                self.assert_misfit(2, word, n)
        self.table.write(2, ROOT, 0, "n")
        self.assert_fits(2, "undo", 3)
        self.assert_fits(4, "undo", 1)
        self.table.learn(4, 1)
        self.assert_misfit(4, "undo", 1)

    def test_a_settle_that_has_not_seen_it(self):
        self.table.write(2, ROOT, 0, "n")
        self.table.do(1, "settle")
        self.table.learn(2, 1)
        self.assert_fits(2, "undo", 3)
        self.assert_misfit(2, "undo", 1)


class BarredHands(Fits):
    def acts(self):
        return (("write", ROOT, (1, 1, 0), (1, 1, 1), "q"), ("erase", ((1, 1, 0),)), ("mark", (1, 1, 0), (1, 1, 0), "a", None),
                ("note", (1, 1, 0), (1, 1, 0), "a"), ("block", ROOT, None), ("move", (1, 2), ROOT, None), ("drop", (1, 2)),
                ("undo", 1), ("redo", 1), ("write", ROOT, (1, 1, 0), (1, 1, 1), "say"), ("note", (1, 1, 0), (1, 1, 0), "say"),
                ("mark", (1, 1, 0), (1, 1, 0), "say", "say"))

    def assert_barred(self, hand, told):
        for act in self.acts():
            (self.assert_misfit if told else self.assert_fits)(hand, *act)
        self.assert_fits(hand, "say")

    def test_a_bar_that_is_known(self):
        self.table.do(1, "bar", 2)
        self.assert_barred(2, False)
        self.table.learn(2, 1)
        self.assert_barred(2, True)
        self.assert_barred(4, False)
        self.assert_barred(1, False)
        self.table.learn(4, 1)
        self.assert_barred(4, False)

    def test_the_last_of_bars_and_lets(self):
        for word, told in (("bar", True), ("let", False), ("let", False), ("bar", True), ("bar", True), ("let", False)):
            self.table.do(1, word, 2)
            self.table.learn(2, 1)
            self.assert_barred(2, told)

    def test_a_bar_or_let_of_another_hand(self):
        self.table.do(1, "bar", 2)
        self.table.do(1, "let", 4)
        self.table.do(1, "let", 3)
        self.table.learn(2, 1)
        self.assert_barred(2, True)
        self.table.do(1, "let", 2)
        self.table.do(1, "bar", 4)
        self.table.learn(2, 1)
        self.assert_barred(2, False)
        self.table.learn(4, 1)
        self.assert_barred(4, True)

    def test_a_let_that_is_not_known(self):
        self.table.do(1, "bar", 2)
        self.table.learn(2, 1)
        self.table.do(1, "let", 2)
        self.assert_barred(2, True)
        self.table.learn(2, 1)
        self.assert_barred(2, False)

    def test_misfits_are_misfits_of_a_hand_that_may_too(self):
        self.table.do(1, "let", 2)
        self.table.learn(2, 1)
        self.assert_misfit(2, "drop", ROOT)
        self.assert_misfit(2, "undo", 3)


class OwnersWords(Fits):
    def test_other_hands(self):
        for act in (("bar", 2), ("bar", 3), ("bar", 4), ("let", 2), ("let", 3), ("let", 4), ("settle",)):
            self.assert_fits(1, *act)
            for hand in (2, 3, 4):
                self.assert_misfit(hand, *act)
                self.assertIs(fits((), (hand, 1, NOUGHT, act)), False)


class ByDice(Fits):
    def test_deeds_that_fit_and_others(self):
        dice = random.Random(9)
        told = {True: set(), False: set()}
        for _ in range(160):
            history = random_history(dice, dice.randint(3, 20))
            plain = Model(history)
            for _ in range(12):
                hand = dice.randint(1, 4)
                seens = [deed[2] for deed in history] + [plain.clock()] * 4
                seen = dice.choice([seen for seen in seens])
                past = plain.part(seen)
                act = random_act(dice, past, hand, seen[hand - 1] + 1, 3)
                if act is None:
                    continue
                if dice.random() < 0.5:
                    act = spoilt_act(dice, act, history)
                if not act[1:2] or act[1] != ():
                    deed = (hand, seen[hand - 1] + 1, seen, act)
                    self.assertIs(fits(history, deed), plain.fits(deed), (history, deed))
                    told[plain.fits(deed)].add(act[0])
        self.assertEqual(told[True], set(WORDS))
        self.assertLessEqual({"write", "erase", "mark", "note", "block", "move", "undo", "redo"}, told[False])

    def test_no_history(self):
        for value in (None, [None], [(1, 2, (1, 0, 0, 0), SAY)], [(2, 1, NOUGHT, ("settle",))]):
            with self.assertRaises(InvalidHistory) as caught:
                fits(value, (1, 1, NOUGHT, SAY))
            self.assertIs(caught.exception.value, value)

    def test_all_of_it_fits_itself(self):
        history = self.table.history()
        self.assertEqual(clock_of(history), (3, 2, 1, 1))
        for deed in history:
            self.assertIs(fits(history, deed), True)


if __name__ == "__main__":
    unittest.main()
