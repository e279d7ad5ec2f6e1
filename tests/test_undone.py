"""Promise [11]: what is undone shows as if it had done nothing."""

import random
import unittest

from quillmoot.blocks import children_of, is_dropped, shown_blocks, vain_moves
from quillmoot.documents import document
from quillmoot.histories import is_history
from quillmoot.marks import runs_of
from quillmoot.rights import is_undone
from quillmoot.rows import block_text, shown_signs
from quillmoot.signs import row_of
from tests.makers import Table, random_history, random_table
from tests.model import Model

ROOT = (0, 0)


def without(history, own):
    """The history with says in place of a deed and of all its undos and redos."""
    def replaced(deed):
        is_turn = deed[0] == own[0] and deed[3] in (("undo", own[1]), ("redo", own[1]))
        return deed[:3] + (("say",),) if is_turn or deed[:2] == own else deed
    return tuple(replaced(deed) for deed in history)


class Undone(unittest.TestCase):
    def assert_as_if_nothing(self, history, own):
        """Whether the history without it is one; if so, that it shows the same."""
        other = without(history, own)
        if not is_history(other):
            return False
        blocks = [block for block, _ in shown_blocks(history)]
        self.assertEqual(document(other), document(history))
        self.assertEqual(shown_blocks(other), shown_blocks(history))
        for block in blocks:
            self.assertEqual(runs_of(other, block), runs_of(history, block))
            self.assertEqual(block_text(other, block), block_text(history, block))
            self.assertEqual(shown_signs(other, block), shown_signs(history, block))
            self.assertEqual(children_of(other, block), children_of(history, block))
            self.assertIs(is_dropped(other, block), is_dropped(history, block))
        self.assertEqual(vain_moves(other), vain_moves(history))
        return True

    def test_each_word(self):
        table = self.told_table()
        _, _, acts = self.told_acts()
        before = document(table.history())
        for act in acts:
            own = table.do(2, *act)
            table.do(2, "undo", own[1])
            self.assertEqual(document(table.history()), before)
            self.assertTrue(self.assert_as_if_nothing(table.history(), own))
            table.do(2, "redo", own[1])
            self.assertNotEqual(document(table.history()), before)
            table.do(2, "undo", own[1])
            self.assertTrue(self.assert_as_if_nothing(table.history(), own))

    def test_each_word_with_deeds_of_others_behind(self):
        one, two, acts = self.told_acts()
        # what others do that know of it, but name no sign or block that it makes
        others = (("write", ROOT, (1, 1, 0), (1, 1, 1), "z"), ("erase", ((1, 1, 1), (1, 1, 2))), ("mark", (1, 1, 1), (1, 1, 3), "bold", None),
                  ("note", (1, 1, 1), (1, 1, 3), "hm"), ("block", one, None), ("move", two, one, None), ("drop", two), ("settle",))
        for act in acts:
            for behind in others:
                for turns in (("undo",), ("undo", "redo", "undo"), ("redo", "undo", "undo")):
                    table = self.told_table()
                    own = table.do(2, *act)
                    table.meet()
                    table.do(1 if behind == ("settle",) else 3, *behind)
                    for turn in turns:
                        table.do(2, turn, own[1])
                    table.meet(2, 4)
                    table.do(4, "write", ROOT, None, (1, 1, 0), "q")
                    with self.subTest(act=act, behind=behind, turns=turns):
                        # a settle that did not know of the undos makes them late
                        self.assertIs(is_undone(table.history(), own), behind != ("settle",))
                        if is_undone(table.history(), own):
                            self.assertTrue(self.assert_as_if_nothing(table.history(), own))
                        # and a redo that all knew of brings it back
                        table.do(2, "redo", own[1])
                        self.assertIs(is_undone(table.history(), own), False)

    def told_table(self):
        """One has typed abcd and made two blocks; all know it."""
        table = Table()
        table.write(1, ROOT, 0, "abcd")
        table.do(1, "block", ROOT, None)
        table.do(1, "block", ROOT, None)
        table.meet()
        return table

    def told_acts(self):
        """These blocks, and an act of each word that can be undone."""
        one, two = (1, 2), (1, 3)
        return one, two, (
            ("write", ROOT, (1, 1, 1), (1, 1, 2), "xy"), ("erase", ((1, 1, 1),)), ("mark", (1, 1, 0), (1, 1, 2), "bold", "on"),
            ("note", (1, 1, 0), (1, 1, 2), "so"), ("block", one, None), ("move", one, two, None), ("drop", one))

    def test_other_signs_stand_and_are_shown(self):
        table = Table()
        table.write(1, ROOT, 0, "ad")
        table.meet()
        table.write(2, ROOT, 1, "bc")
        table.meet()
        table.write(3, ROOT, 2, "x")
        table.write(4, ROOT, 1, "y")
        row = row_of(table.history(), ROOT)
        self.assertEqual(block_text(table.history(), ROOT), "aybxcd")
        table.do(2, "undo", 1)
        self.assertEqual(row_of(table.history(), ROOT), row)
        self.assertEqual(block_text(table.history(), ROOT), "ayxd")
        # without the write deed there is no history, as others typed beside its signs
        self.assertIs(is_history(without(table.history(), (2, 1))), False)

    def test_by_dice(self):
        dice = random.Random(11)
        many = 0
        for k in range(160):
            if k % 2:
                history = random_history(dice, dice.randint(6, 24))
            else:
                history = tuple(random_table(dice, 20, meeting=0.2).deeds)
            plain = Model(history)
            for deed in history:
                if is_undone(history, deed[:2]):
                    many += self.assert_as_if_nothing(history, deed[:2])
                    for sign in plain.signs():
                        if sign[:2] == deed[:2]:
                            self.assertNotIn(sign, shown_signs(history, plain.block_of(sign)))
        self.assertGreater(many, 30)


if __name__ == "__main__":
    unittest.main()
