"""Promise [15]: what is shown of a row."""

import random
import unittest

from quillmoot import rows
from quillmoot.errors import InvalidHistory, InvalidNumber, NoBlock, NoSign
from quillmoot.rows import block_text, letter_of, place_of, shown_signs, sign_at
from quillmoot.signs import row_of
from tests.deed_samples import BIG
from tests.makers import NOUGHT, Table, random_history
from tests.model import Model

ROOT = (0, 0)


class Rows(unittest.TestCase):
    def setUp(self):
        """One has typed abcd, and all know it."""
        self.table = Table()
        self.table.write(1, ROOT, 0, "abcd")
        self.table.meet()

    def assert_text(self, text, block=ROOT):
        history = self.table.history()
        self.assertEqual(block_text(history, block), text)
        self.assertEqual(block_text(history=list(history[::-1]), block=block), text)
        shown = shown_signs(history, block)
        self.assertIsInstance(shown, tuple)
        self.assertEqual(shown, shown_signs(history=history[::-1], block=block))
        self.assertEqual("".join(letter_of(history, sign) for sign in shown), text)
        self.assertEqual([sign_at(history, block, at) for at in range(len(text))], list(shown))
        row = row_of(history, block)
        self.assertEqual([sign for sign in row if sign in shown], list(shown))
        for sign in row:
            self.assertEqual(place_of(history, sign), len([x for x in row[:row.index(sign)] if x in shown]))


class Shown(Rows):
    def test_the_overview(self):
        table = Table()
        table.write(1, ROOT, 0, "ac")
        table.learn(2, 1)
        table.write(1, ROOT, 1, "b")
        table.write(2, ROOT, 1, "xy")
        self.table = table
        self.assert_text("abxyc")
        self.assertEqual(shown_signs(table.history(), ROOT), ((1, 1, 0), (1, 2, 0), (2, 1, 0), (2, 1, 1), (1, 1, 1)))

    def test_nothing_typed(self):
        self.assertEqual(block_text((), ROOT), "")
        self.assertEqual(shown_signs((), ROOT), ())
        self.table = Table()
        self.table.do(1, "block", ROOT, None)
        self.assert_text("", (1, 1))
        self.assert_text("")

    def test_blanks_are_shown(self):
        self.table.write(2, ROOT, 2, " x  ")
        self.assert_text("ab x  cd")
        self.assertEqual(letter_of(self.table.history(), (2, 1, 0)), " ")

    def test_erased_by_two_hands(self):
        table = self.table
        table.do(2, "erase", ((1, 1, 1), (1, 1, 2)))
        self.assert_text("ad")
        table.do(3, "erase", ((1, 1, 0), (1, 1, 2)))
        self.assert_text("d")
        table.do(2, "undo", 1)
        self.assert_text("bd")
        table.do(3, "undo", 1)
        self.assert_text("abcd")
        table.do(2, "redo", 1)
        self.assert_text("ad")

    def test_a_write_undone_and_done_again(self):
        table = self.table
        table.write(2, ROOT, 2, "xy")
        table.learn(3, 2)
        table.write(3, ROOT, 3, "m")
        self.assert_text("abxmycd")
        table.do(2, "undo", 1)
        # what was typed beside them stays where it is
        self.assert_text("abmcd")
        table.do(2, "redo", 1)
        self.assert_text("abxmycd")

    def test_barred_writes_and_erases(self):
        table = self.table
        table.write(2, ROOT, 0, "x")
        table.do(2, "erase", ((1, 1, 0),))
        self.assert_text("xbcd")
        table.do(1, "bar", 2)
        self.assert_text("abcd")
        table.do(1, "let", 2)
        table.learn(2, 1)
        table.write(2, ROOT, 1, "y")
        self.assert_text("yabcd")

    def test_an_erase_of_a_sign_that_is_not_shown(self):
        table = self.table
        table.write(2, ROOT, 0, "x")
        table.do(2, "undo", 1)
        table.learn(3, 2)
        table.do(3, "erase", ((2, 1, 0),))
        table.do(2, "redo", 1)
        self.assert_text("abcd")
        table.do(3, "undo", 1)
        self.assert_text("xabcd")

    def test_erases_over_several_blocks(self):
        table = self.table
        table.do(2, "block", ROOT, None)
        table.write(2, (2, 1), 0, "xyz")
        table.do(2, "erase", ((1, 1, 3), (2, 2, 1)))
        self.assert_text("abc")
        self.assert_text("xz", (2, 1))

    def test_blocks_that_are_not_shown(self):
        table = self.table
        table.do(2, "block", ROOT, None)
        table.write(2, (2, 1), 0, "xy")
        table.do(2, "drop", (2, 1))
        self.assert_text("xy", (2, 1))
        table.do(2, "undo", 1)
        self.assert_text("xy", (2, 1))

    def test_settled_and_passed_signs(self):
        table = self.table
        table.do(2, "erase", ((1, 1, 3),))
        table.learn(1, 2)
        table.do(1, "settle")
        table.round()
        table.do(3, "write", ROOT, (1, 1, 2), None, "x")
        self.assert_text("abcx")

    def test_by_dice(self):
        dice = random.Random(15)
        for _ in range(60):
            self.table.deeds = list(random_history(dice, dice.randint(2, 24)))
            plain = Model(self.table.deeds)
            for block in plain.blocks():
                self.assert_text(plain.text(block), block)
                self.assertEqual(list(shown_signs(self.table.deeds, block)), plain.shown(block))
            for sign in plain.signs():
                self.assertEqual(letter_of(self.table.deeds, sign), plain.letter(sign))

    def test_a_long_row(self):
        self.table.deeds = [(1, n, (n - 1, 0, 0, 0), ("write", ROOT, (1, n - 1, 7) if n > 1 else None, None, "abcdefgh"))
                            for n in range(1, 41)]
        self.assertEqual(block_text(self.table.deeds, ROOT), "abcdefgh" * 40)
        self.assertEqual(place_of(self.table.deeds, (1, 40, 7)), 319)
        self.assertEqual(sign_at(self.table.deeds, ROOT, 319), (1, 40, 7))


class Places(Rows):
    def test_letters_and_places_of_signs_that_are_not_shown(self):
        table = self.table
        table.do(2, "erase", ((1, 1, 0), (1, 1, 2)))
        history = table.history()
        self.assertEqual([letter_of(history, (1, 1, k)) for k in range(4)], ["a", "b", "c", "d"])
        self.assertEqual([place_of(history, (1, 1, k)) for k in range(4)], [0, 0, 1, 1])
        self.assertEqual(letter_of(history=history, sign=(1, 1, 3)), "d")
        self.assertEqual(place_of(history=history, sign=(1, 1, 3)), 1)

    def test_numbers_of_signs(self):
        history = self.table.history()
        self.assertEqual([sign_at(history, ROOT, at) for at in range(4)], [(1, 1, k) for k in range(4)])
        self.assertEqual(sign_at(history=history, block=ROOT, at=2), (1, 1, 2))
        for at in (-1, -2, -4, 4, 5, BIG, -BIG):
            with self.assertRaises(InvalidNumber) as caught:
                sign_at(history, ROOT, at)
            self.assertEqual(caught.exception.value, at)
        self.table.do(2, "erase", ((1, 1, 0), (1, 1, 1), (1, 1, 3)))
        history = self.table.history()
        self.assertEqual(sign_at(history, ROOT, 0), (1, 1, 2))
        for at in (1, 2, 3, -1):
            self.assertRaises(InvalidNumber, sign_at, history, ROOT, at)
        self.assertRaises(InvalidNumber, sign_at, (), ROOT, 0)


class Wrong(Rows):
    def test_blocks_and_signs_that_are_not_there(self):
        self.table.do(2, "block", ROOT, None)
        for history in (self.table.history(), ()):
            for block in ((1, 1), (1, 2), (2, 2), (4, 1), (5, 1), (0, 1), (1, 0)):
                for ask in (shown_signs, block_text, lambda told, own: sign_at(told, own, -1)):
                    with self.assertRaises(NoBlock) as caught:
                        ask(history, block)
                    self.assertEqual(caught.exception.block, block)
            for sign in ((1, 1, 4), (2, 1, 0), (1, 2, 0), (3, 1, 0), (0, 0, 0), (1, 1, -1)):
                for ask in (letter_of, place_of):
                    with self.assertRaises(NoSign) as caught:
                        ask(history, sign)
                    self.assertEqual(caught.exception.sign, sign)

    def test_no_histories(self):
        for value in (None, [None], [(1, 2, (1, 0, 0, 0), ("say",))], ((2, 1, NOUGHT, ("settle",)),)):
            for ask, others in ((shown_signs, ((9, 9),)), (block_text, ((9, 9),)), (letter_of, ((9, 9, 9),)),
                                (place_of, ((9, 9, 9),)), (sign_at, ((9, 9), -1))):
                with self.assertRaises(InvalidHistory) as caught:
                    ask(value, *others)
                self.assertIs(caught.exception.value, value)

    def test_defined_in_its_module(self):
        for name in ("shown_signs", "block_text", "letter_of", "place_of", "sign_at"):
            self.assertEqual(getattr(rows, name).__module__, "quillmoot.rows")


if __name__ == "__main__":
    unittest.main()
