"""Promises [20] and [21]: documents, cuts, changes, who typed."""

import random
import unittest

from quillmoot import documents
from quillmoot.documents import changes, cuts_of, document, document_at, document_text, who_typed
from quillmoot.errors import InvalidClock, InvalidHistory, NoBlock
from quillmoot.histories import history_of, is_cut, part
from quillmoot.marks import runs_of
from quillmoot.notes import notes_of
from tests.makers import NOUGHT, Table, random_history
from tests.model import Model

ROOT = (0, 0)
NO_CLOCKS = (None, 0, "0.0.0.0", (), (0, 0, 0), (0, 0, 0, 0, 0), [0, 0, 0, 0], (0, 0, 0, -1), (0, True, 0, 0), (0, 0, 0, "1"))


def random_moving(dice):
    """A history in which blocks are made and then moved and dropped much."""
    table = Table()
    blocks = [ROOT] + [table.do(1, "block", ROOT, None) for _ in range(4)]
    table.meet()
    for _ in range(12):
        hand = dice.randint(1, 4)
        table.learn(hand, dice.randint(1, 4))
        act = dice.choice((("move", dice.choice(blocks[1:]), dice.choice(blocks), dice.choice([None] + blocks)),) * 4
                          + (("drop", dice.choice(blocks[1:])), ("undo", dice.randint(1, 4))))
        if table.known(hand).fits(table.deed(hand, *act)):
            table.do(hand, *act)
    return table.history()


class Documents(unittest.TestCase):
    def setUp(self):
        """A root "top", below it one ("a b") and two (empty), below two an inner block."""
        self.table = Table()
        self.table.write(1, ROOT, 0, "top")
        self.one = self.table.do(1, "block", ROOT, None)
        self.two = self.table.do(1, "block", ROOT, self.one)
        self.inner = self.table.do(1, "block", self.two, None)
        self.table.write(1, self.one, 0, "a b")
        self.table.write(1, self.inner, 0, "in")
        self.table.meet()

    def shape(self):
        return tuple((block, depth) for block, depth, _, _ in document(self.table.history()))


class Whole(Documents):
    def test_the_empty_history(self):
        self.assertEqual(document(()), ((ROOT, 0, (), ()),))
        self.assertEqual(document_text(()), "")
        self.assertEqual(cuts_of(()), (NOUGHT,))
        self.assertEqual(document_at((), NOUGHT), document(()))
        self.assertEqual(changes((), NOUGHT, NOUGHT), ((), (), ()))
        self.assertEqual(who_typed((), ROOT), ())

    def test_blocks_below_blocks(self):
        own = self.table.do(2, "note", (1, 1, 1), (1, 1, 2), "so")
        self.table.do(2, "mark", (1, 1, 0), (1, 1, 0), "bold", "on")
        history = self.table.history()
        told = ((ROOT, 0, (("t", (("bold", "on"),)), ("op", ())), ((own, 1, 3, "so"),)),
                (self.one, 1, (("a b", ()),), ()), (self.two, 1, (), ()), (self.inner, 2, (("in", ()),), ()))
        self.assertEqual(document(history), told)
        self.assertEqual(document(history=list(history[::-1])), told)

    def test_text_with_depths(self):
        self.assertEqual(document_text(history=self.table.history()), "top\n  a b\n  \n    in")

    def test_blanks_at_the_ends_of_texts_stay(self):
        self.table.write(2, self.two, 0, " x ")
        self.assertEqual(document_text(self.table.history()), "top\n  a b\n   x \n    in")

    def test_dropped_blocks(self):
        self.table.do(2, "drop", self.two)
        self.assertEqual(self.shape(), ((ROOT, 0), (self.one, 1)))
        self.assertEqual(document_text(self.table.history()), "top\n  a b")

    def test_blocks_moved_out_of_a_dropped_one(self):
        self.table.do(2, "drop", self.two)
        self.table.do(2, "move", self.inner, self.one, None)
        self.assertEqual(self.shape(), ((ROOT, 0), (self.one, 1), (self.inner, 2)))
        self.assertEqual(document_text(self.table.history()), "top\n  a b\n    in")

    def test_moved_blocks(self):
        self.table.do(2, "move", self.two, ROOT, None)
        self.assertEqual(self.shape(), ((ROOT, 0), (self.two, 1), (self.inner, 2), (self.one, 1)))
        self.assertEqual(document_text(self.table.history()), "top\n  \n    in\n  a b")

    def test_it_tells_what_the_modules_tell(self):
        dice = random.Random(20)
        for _ in range(60):
            history = random_history(dice, dice.randint(1, 22))
            plain = Model(history)
            told = document(history)
            self.assertEqual(told, plain.document())
            for block, _, runs, notes in told:
                self.assertEqual((runs, notes), (runs_of(history, block), notes_of(history, block)))
            self.assertEqual(document_text(history), plain.document_text())
            self.assertEqual(hash(told), hash(document(history)))


class Cuts(Documents):
    def test_cuts_in_turn(self):
        self.table.do(3, "say")
        self.table.do(2, "say")
        self.table.do(2, "say")
        self.assertEqual(cuts_of(history=self.table.history()), (
            NOUGHT, (1, 0, 0, 0), (2, 0, 0, 0), (3, 0, 0, 0), (4, 0, 0, 0), (5, 0, 0, 0), (6, 0, 0, 0),
            (6, 1, 0, 0), (6, 1, 1, 0), (6, 2, 1, 0)))

    def test_each_is_a_cut(self):
        dice = random.Random(21)
        for _ in range(40):
            history = random_history(dice, dice.randint(1, 20))
            cuts = cuts_of(history)
            self.assertEqual(cuts, Model(history).cuts())
            turns = history_of(history)
            for many, cut in enumerate(cuts):
                self.assertTrue(is_cut(history, cut))
                self.assertEqual(part(history, cut), turns[:many])

    def test_document_at_a_cut(self):
        history = self.table.history()
        self.assertEqual(document_at(history=history, clock=(1, 0, 0, 0)), ((ROOT, 0, (("top", ()),), ()),))
        self.assertEqual(document_at(history, (6, 0, 0, 0)), document(history))
        self.assertEqual(document_at(history, NOUGHT), document(()))

    def test_what_is_undone_later_is_there_earlier(self):
        self.table.do(1, "undo", 1)
        self.table.do(1, "drop", self.one)
        history = self.table.history()
        self.assertEqual(document_text(history), "\n  \n    in")
        self.assertEqual(document_at(history, (6, 0, 0, 0))[0][2], (("top", ()),))
        self.assertEqual(len(document_at(history, (7, 0, 0, 0))), 4)

    def test_document_at_by_dice(self):
        dice = random.Random(22)
        for _ in range(40):
            history = random_history(dice, dice.randint(1, 18))
            for deed in history:
                self.assertEqual(document_at(history, deed[2]), document(part(history, deed[2])))
                self.assertEqual(document_at(history, deed[2]), Model(history).part(deed[2]).document())


class Changes(Documents):
    def between(self, clock, other):
        history = self.table.history()
        told = changes(history, clock, other)
        come, gone, moved = told
        self.assertEqual(changes(history=history[::-1], clock=other, other=clock), (gone, come, moved))
        self.assertEqual(told, Model(history).changes(clock, other))
        return told

    def test_nothing_between_a_cut_and_itself(self):
        for cut in cuts_of(self.table.history()):
            self.assertEqual(self.between(cut, cut), ((), (), ()))

    def test_signs_that_come_and_go(self):
        self.table.do(2, "erase", ((1, 1, 1), (1, 5, 0)))
        self.table.do(3, "write", ROOT, (1, 1, 0), (1, 1, 1), "uv")
        start = (6, 0, 0, 0)
        self.assertEqual(self.between(start, (6, 1, 0, 0)), ((), ((1, 1, 1), (1, 5, 0)), ()))
        self.assertEqual(self.between(start, (6, 0, 1, 0)), (((3, 1, 0), (3, 1, 1)), (), ()))
        self.assertEqual(self.between(start, (6, 1, 1, 0)), (((3, 1, 0), (3, 1, 1)), ((1, 1, 1), (1, 5, 0)), ()))
        # neither is the greater one
        self.assertEqual(self.between((6, 1, 0, 0), (6, 0, 1, 0)),
                         (((3, 1, 0), (3, 1, 1), (1, 1, 1), (1, 5, 0)), (), ()))

    def test_by_blocks_ascending_then_by_the_row_of_the_whole(self):
        table = Table()
        table.write(4, ROOT, 0, "z")
        two = table.do(2, "block", ROOT, None)
        one = table.do(1, "block", ROOT, None)
        table.meet()
        table.do(4, "write", two, None, None, "cd")
        table.do(4, "write", one, None, None, "ab")
        table.do(4, "write", ROOT, None, (4, 1, 0), "y")
        table.do(3, "write", ROOT, None, (4, 1, 0), "x")
        self.table = table
        come, gone, moved = self.between((1, 1, 0, 1), (1, 1, 1, 4))
        self.assertEqual(come, ((3, 1, 0), (4, 4, 0), (4, 3, 0), (4, 3, 1), (4, 2, 0), (4, 2, 1)))
        self.assertEqual((gone, moved), ((), ()))

    def test_signs_of_blocks_that_are_not_shown(self):
        self.table.do(2, "drop", self.one)
        # their signs are shown in the sense of [15] at both
        self.assertEqual(self.between((6, 0, 0, 0), (6, 1, 0, 0)), ((), (), ()))
        self.table.do(3, "write", self.one, None, (1, 5, 0), "q")
        self.assertEqual(self.between((6, 1, 0, 0), (6, 1, 1, 0)), (((3, 1, 0),), (), ()))

    def test_blocks_with_another_parent(self):
        self.table.do(2, "move", self.two, self.one, None)
        # the inner one has another depth
        self.assertEqual(self.between((6, 0, 0, 0), (6, 1, 0, 0))[2], (self.two, self.inner))

    def test_blocks_with_another_parent_at_the_same_depth(self):
        self.table.do(2, "move", self.inner, self.one, None)
        self.assertEqual(self.between((6, 0, 0, 0), (6, 1, 0, 0))[2], (self.inner,))

    def test_blocks_with_another_place_alone(self):
        self.table.do(2, "move", self.two, ROOT, None)
        self.assertEqual(self.between((6, 0, 0, 0), (6, 1, 0, 0))[2], ())

    def test_blocks_that_came_or_went(self):
        self.table.do(2, "block", self.one, None)
        self.table.do(2, "drop", self.two)
        self.assertEqual(self.between((6, 0, 0, 0), (6, 2, 0, 0))[2], ())
        # moved while it was not shown
        self.table.do(2, "move", self.two, self.one, None)
        self.assertEqual(self.between((6, 0, 0, 0), (6, 3, 0, 0))[2], ())

    def test_by_dice(self):
        dice = random.Random(23)
        moved = 0
        for k in range(80):
            history = random_moving(dice) if k % 2 else random_history(dice, dice.randint(2, 20))
            plain = Model(history)
            cuts = cuts_of(history) + tuple(deed[2] for deed in history)
            for _ in range(4):
                clock, other = dice.choice(cuts), dice.choice(cuts)
                told = changes(history, clock, other)
                self.assertEqual(told, plain.changes(clock, other))
                moved += len(told[2])
        self.assertGreater(moved, 5)


class Typed(Documents):
    def test_hands_in_order(self):
        self.table.write(2, ROOT, 1, "xy")
        self.table.learn(4, 2)
        self.table.write(4, ROOT, 2, "z")
        history = self.table.history()
        self.assertEqual(who_typed(history, ROOT), (1, 2, 4, 2, 1, 1))
        self.assertEqual(who_typed(history=list(history), block=self.one), (1, 1, 1))
        self.assertEqual(who_typed(history, self.two), ())

    def test_those_shown(self):
        self.table.write(2, ROOT, 1, "xy")
        self.table.do(3, "erase", ((1, 1, 0),))
        self.assertEqual(who_typed(self.table.history(), ROOT), (2, 2, 1, 1))
        self.table.do(2, "undo", 1)
        self.assertEqual(who_typed(self.table.history(), ROOT), (1, 1))

    def test_blocks_that_are_not_shown(self):
        self.table.do(2, "drop", self.one)
        self.assertEqual(who_typed(self.table.history(), self.one), (1, 1, 1))
        self.table.do(1, "undo", self.inner[1])
        self.assertEqual(who_typed(self.table.history(), self.inner), (1, 1))


class Wrong(Documents):
    def test_no_clocks_and_no_cuts(self):
        self.table.write(2, ROOT, 1, "xy")
        history = self.table.history()
        for clock in NO_CLOCKS + ((7, 0, 0, 0), (5, 1, 0, 0), (6, 2, 0, 0), (0, 1, 0, 0), (6, 1, 0, 10 ** 6)):
            with self.assertRaises(InvalidClock) as caught:
                document_at(history, clock)
            self.assertIs(caught.exception.value, clock)
            for pair in ((clock, NOUGHT), (NOUGHT, clock), (clock, (9, 9, 9, 9))):
                with self.assertRaises(InvalidClock) as caught:
                    changes(history, *pair)
                self.assertIs(caught.exception.value, clock)
        with self.assertRaises(InvalidClock) as caught:
            changes(history, (6, 1, 0, 0), (9, 9, 9, 9))
        self.assertEqual(caught.exception.value, (9, 9, 9, 9))

    def test_blocks_that_are_not_there(self):
        for block in ((1, 1), (2, 1), (5, 1), (0, 1), None):
            with self.assertRaises(NoBlock) as caught:
                who_typed(self.table.history(), block)
            self.assertEqual(caught.exception.block, block)

    def test_no_histories(self):
        calls = ((document, ()), (document_text, ()), (document_at, (None,)), (cuts_of, ()), (changes, (None, None)),
                 (who_typed, ((9, 9),)))
        for value in (None, 1, [None], [(1, 2, (1, 0, 0, 0), ("say",))], ((2, 1, NOUGHT, ("settle",)),)):
            for call, others in calls:
                with self.assertRaises(InvalidHistory) as caught:
                    call(value, *others)
                self.assertIs(caught.exception.value, value)

    def test_defined_in_its_module(self):
        for name in ("document", "document_text", "document_at", "cuts_of", "changes", "who_typed"):
            self.assertEqual(getattr(documents, name).__module__, "quillmoot.documents")


if __name__ == "__main__":
    unittest.main()
