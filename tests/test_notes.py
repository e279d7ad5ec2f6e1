"""The second half of promise [19]: notes."""

import random
import unittest

from quillmoot import notes
from quillmoot.errors import InvalidHistory, NoBlock
from quillmoot.notes import notes_of
from tests.makers import NOUGHT, Table, random_text, random_table
from tests.model import Model

ROOT = (0, 0)


class Notes(unittest.TestCase):
    def setUp(self):
        """One has typed abcdef, and all know it."""
        self.table = Table()
        self.table.write(1, ROOT, 0, "abcdef")
        self.table.meet()

    def note(self, hand, first, last, text="so"):
        ends = [(1, 1, end) if isinstance(end, int) else end for end in (first, last)]
        return self.table.do(hand, "note", *ends, text)

    def assert_notes(self, *told, block=ROOT):
        history = self.table.history()
        self.assertEqual(notes_of(history, block), told)
        self.assertEqual(notes_of(history=list(history[::-1]), block=block), told)


class Places(Notes):
    def test_none(self):
        self.assert_notes()
        self.assertEqual(notes_of((), ROOT), ())

    def test_from_first_to_last(self):
        own = self.note(2, 1, 3, "hm so")
        self.assert_notes((own, 1, 4, "hm so"))

    def test_one_sign_and_the_whole_text(self):
        one, two = self.note(2, 5, 5), self.note(2, 0, 5)
        self.assert_notes((one, 5, 6, "so"), (two, 0, 6, "so"))

    def test_the_first_sign_is_erased(self):
        own = self.note(2, 1, 3)
        self.table.do(3, "erase", ((1, 1, 1),))
        self.assert_notes((own, 1, 3, "so"))

    def test_the_last_sign_is_erased(self):
        own = self.note(2, 1, 3)
        self.table.do(3, "erase", ((1, 1, 3),))
        self.assert_notes((own, 1, 3, "so"))

    def test_signs_ahead_are_erased(self):
        own = self.note(2, 2, 3)
        self.table.do(3, "erase", ((1, 1, 0), (1, 1, 1)))
        self.assert_notes((own, 0, 2, "so"))

    def test_nothing_of_it_is_shown(self):
        own = self.note(2, 1, 3)
        self.table.do(3, "erase", ((1, 1, 1), (1, 1, 2), (1, 1, 3)))
        self.assert_notes((own, 1, 1, "so"))
        self.table.do(4, "erase", ((1, 1, 0), (1, 1, 4), (1, 1, 5)))
        self.assert_notes((own, 0, 0, "so"))

    def test_both_ends_erased_with_signs_between_and_beside_them(self):
        own = self.note(2, 1, 2)
        self.table.do(3, "write", ROOT, (1, 1, 1), (1, 1, 2), "xy")
        self.assert_notes((own, 1, 5, "so"))
        self.table.do(3, "erase", ((1, 1, 1), (1, 1, 2)))
        self.assert_notes((own, 1, 3, "so"))
        self.table.do(4, "write", ROOT, (1, 1, 0), (1, 1, 1), "u")
        self.table.do(4, "write", ROOT, (1, 1, 2), (1, 1, 3), "v")
        # u stands ahead of the first sign, v behind the last one, which are not shown
        self.assert_notes((own, 2, 4, "so"))

    def test_ends_of_a_write_that_is_undone(self):
        write = self.table.write(2, ROOT, 6, "ghi")
        self.table.meet()
        own = self.note(3, 5, (2, 1, 1))
        other = self.note(4, (2, 1, 0), (2, 1, 2))
        self.assert_notes((own, 5, 8, "so"), (other, 6, 9, "so"))
        self.table.do(2, "undo", write[1])
        self.assert_notes((own, 5, 6, "so"), (other, 6, 6, "so"))
        self.table.do(2, "redo", write[1])
        self.assert_notes((own, 5, 8, "so"), (other, 6, 9, "so"))


class Which(Notes):
    def test_in_turn(self):
        late = self.table.do(2, "say") and self.note(2, 0, 0, "late")
        four, three = self.note(4, 0, 1, "four"), self.note(3, 2, 3, "three")
        self.assertEqual(late, (2, 2))
        self.assert_notes((three, 2, 4, "three"), (four, 0, 2, "four"), (late, 0, 1, "late"))

    def test_those_that_count(self):
        one, two = self.note(2, 0, 0), self.note(3, 1, 1)
        self.table.do(2, "undo", 1)
        self.assert_notes((two, 1, 2, "so"))
        self.table.do(2, "redo", 1)
        self.assert_notes((one, 0, 1, "so"), (two, 1, 2, "so"))
        self.table.do(1, "bar", 3)
        self.assert_notes((one, 0, 1, "so"))

    def test_those_of_the_block(self):
        block = self.table.do(2, "block", ROOT, None)
        self.table.do(2, "write", block, None, None, "xy")
        root, own = self.note(2, 0, 2, "root"), self.note(2, (2, 2, 1), (2, 2, 1), "own")
        self.assert_notes((root, 0, 3, "root"))
        self.assert_notes((own, 1, 2, "own"), block=block)

    def test_blocks_that_are_not_shown(self):
        block = self.table.do(2, "block", ROOT, None)
        self.table.do(2, "write", block, None, None, "xy")
        own = self.note(2, (2, 2, 0), (2, 2, 1))
        self.table.do(2, "drop", block)
        self.assert_notes((own, 0, 2, "so"), block=block)
        self.table.do(2, "undo", 1)
        self.assert_notes((own, 0, 2, "so"), block=block)


class ByDice(unittest.TestCase):
    def test_against_the_model(self):
        dice = random.Random(19)
        many = 0
        for _ in range(60):
            table = random_table(dice, dice.randint(3, 16), longest=4, meeting=dice.choice((0.2, 0.6)))
            for _ in range(8):
                hand = dice.randint(1, 4)
                table.learn(hand, dice.randint(1, 4))
                row = table.known(hand).open_row(ROOT)
                if row and table.known(hand).fits(table.deed(hand, "block", ROOT, None)):
                    first = dice.randrange(len(row))
                    table.do(hand, "note", row[first], row[dice.randrange(first, len(row))], random_text(dice, 4))
            history = tuple(dice.sample(table.deeds, len(table.deeds)))
            plain = Model(history)
            for block in plain.blocks():
                told = notes_of(history, block)
                self.assertEqual(told, plain.notes(block))
                self.assertTrue(all(0 <= start <= end <= len(plain.shown(block)) for _, start, end, _ in told))
                many += len(told)
        self.assertGreater(many, 150)


class Wrong(Notes):
    def test_blocks_that_are_not_there(self):
        for history in (self.table.history(), ()):
            for block in ((1, 1), (1, 2), (5, 1), (0, 1), (1, 0), None, [0, 0]):
                with self.assertRaises(NoBlock) as caught:
                    notes_of(history, block)
                self.assertEqual(caught.exception.block, block)

    def test_no_histories(self):
        for value in (None, [None], [(1, 2, (1, 0, 0, 0), ("say",))], ((2, 1, NOUGHT, ("settle",)),)):
            with self.assertRaises(InvalidHistory) as caught:
                notes_of(value, (9, 9))
            self.assertIs(caught.exception.value, value)

    def test_defined_in_its_module(self):
        self.assertEqual(notes.notes_of.__module__, "quillmoot.notes")


if __name__ == "__main__":
    unittest.main()
