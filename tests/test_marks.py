"""Promise [18], and of [19] what it says of runs."""

import random
import unittest

from quillmoot import marks
from quillmoot.errors import InvalidHistory, NoBlock, NoSign
from quillmoot.marks import marks_at, runs_of, winner
from quillmoot.rows import block_text, shown_signs
from tests.makers import NAMES, NOUGHT, WORTHS, Table, random_table
from tests.model import Model

ROOT = (0, 0)


class Marks(unittest.TestCase):
    def setUp(self):
        """One has typed abcdef, and all know it."""
        self.table = Table()
        self.table.write(1, ROOT, 0, "abcdef")
        self.table.meet()

    def mark(self, hand, first, last, name, worth):
        """A hand marks from one sign of 1.1 to another one."""
        ends = [(1, 1, end) if isinstance(end, int) else end for end in (first, last)]
        return self.table.do(hand, "mark", *ends, name, worth)

    def assert_runs(self, *told, block=ROOT):
        history = self.table.history()
        self.assertEqual(runs_of(history, block), told)
        self.assertEqual(runs_of(history=list(history[::-1]), block=block), told)

    def winners(self, name):
        history = self.table.history()
        return [winner(history, (1, 1, k), name) for k in range(6)]

    def at(self, sign):
        return marks_at(self.table.history(), (1, 1, sign) if isinstance(sign, int) else sign)


class Winners(Marks):
    def test_from_first_to_last(self):
        self.assertEqual(self.winners("bold"), [None] * 6)
        own = self.mark(2, 1, 3, "bold", "on")
        self.assertEqual(self.winners("bold"), [None, own, own, own, None, None])
        self.assertEqual(self.winners("link"), [None] * 6)
        self.assertEqual([self.at(k) for k in range(6)], [(), (("bold", "on"),), (("bold", "on"),), (("bold", "on"),), (), ()])
        self.assertEqual(winner(history=self.table.history(), sign=(1, 1, 1), name="bold"), own)
        self.assertEqual(marks_at(history=self.table.history(), sign=(1, 1, 1)), (("bold", "on"),))

    def test_one_sign_alone(self):
        own = self.mark(2, 5, 5, "bold", "on")
        self.assertEqual(self.winners("bold"), [None] * 5 + [own])

    def test_the_last_turn_wins(self):
        # alike in time, the greater hand has the later turn
        three, two = self.mark(3, 0, 2, "bold", "b"), self.mark(2, 1, 4, "bold", "a")
        self.assertEqual(self.winners("bold"), [three, three, three, two, two, None])
        self.table.do(4, "say")
        four = self.mark(4, 2, 3, "bold", "c")
        self.assertEqual(self.winners("bold"), [three, three, four, four, two, None])
        # a later time wins over a greater hand
        self.table.do(2, "say")
        self.table.do(2, "say")
        late = self.mark(2, 3, 3, "bold", "d")
        self.assertEqual(self.winners("bold"), [three, three, four, late, two, None])

    def test_no_worth_takes_a_mark_away(self):
        self.mark(2, 0, 4, "bold", "on")
        self.table.meet()
        off = self.mark(3, 1, 2, "bold", None)
        self.assertEqual(self.winners("bold")[1], off)
        self.assertEqual([self.at(k) for k in range(4)], [(("bold", "on"),), (), (), (("bold", "on"),)])
        self.assert_runs(("a", (("bold", "on"),)), ("bc", ()), ("de", (("bold", "on"),)), ("f", ()))
        self.table.do(3, "undo", 1)
        self.assert_runs(("abcde", (("bold", "on"),)), ("f", ()))

    def test_no_worth_does_not_bring_back_an_earlier_mark(self):
        self.mark(2, 0, 5, "bold", "a")
        self.table.meet()
        self.mark(2, 0, 5, "bold", None)
        self.assertEqual(self.at(0), ())

    def test_names_ascend(self):
        for name in ("size", "bold", "b", "link", "boldly"):
            self.mark(2, 0, 5, name, name)
        self.mark(2, 0, 5, "link", None)
        self.assertEqual(self.at(3), (("b", "b"), ("bold", "bold"), ("boldly", "boldly"), ("size", "size")))

    def test_marks_that_do_not_count(self):
        two, three = self.mark(2, 0, 3, "bold", "a"), self.mark(3, 2, 5, "bold", "b")
        self.table.do(3, "undo", 1)
        self.assertEqual(self.winners("bold"), [two] * 4 + [None] * 2)
        self.table.do(3, "redo", 1)
        self.assertEqual(self.winners("bold"), [two] * 2 + [three] * 4)
        self.table.do(1, "bar", 2)
        self.assertEqual(self.winners("bold"), [None] * 2 + [three] * 4)

    def test_signs_typed_between_the_ends_later(self):
        own = self.mark(2, 1, 2, "bold", "on")
        for at, sign, told in ((2, (3, 1, 0), own), (1, (3, 2, 0), None), (5, (3, 3, 0), None)):
            self.table.write(3, ROOT, at, "x")
            self.assertEqual(winner(self.table.history(), sign, "bold"), told)
        self.assertEqual(block_text(self.table.history(), ROOT), "axbxcxdef")
        self.assert_runs(("ax", ()), ("bxc", (("bold", "on"),)), ("xdef", ()))

    def test_ends_that_are_erased_or_undone(self):
        own = self.mark(2, 1, 4, "bold", "on")
        self.table.do(3, "erase", ((1, 1, 1), (1, 1, 4)))
        self.assertEqual(self.winners("bold"), [None] + [own] * 4 + [None])
        self.assert_runs(("a", ()), ("cd", (("bold", "on"),)), ("f", ()))
        self.setUp()
        self.table.write(2, ROOT, 3, "xy")
        self.table.learn(3, 2)
        own = self.mark(3, (2, 1, 0), 3, "bold", "on")
        self.table.do(2, "undo", 1)
        # x and y, of which the mark begins with x, stand between c and d
        self.assertEqual(self.winners("bold"), [None, None, None, own, None, None])
        self.assertEqual(winner(self.table.history(), (2, 1, 1), "bold"), own)
        self.table.write(3, ROOT, 4, "z")
        self.assert_runs(("abc", ()), ("zd", (("bold", "on"),)), ("ef", ()))

    def test_signs_that_are_not_shown_have_marks(self):
        self.mark(2, 0, 2, "bold", "on")
        self.table.do(3, "erase", ((1, 1, 1),))
        self.assertEqual(self.at(1), (("bold", "on"),))

    def test_blocks_do_not_mix(self):
        self.table.do(2, "block", ROOT, None)
        self.table.write(2, (2, 1), 0, "xy")
        own = self.table.do(2, "mark", (2, 2, 0), (2, 2, 0), "bold", "on")
        self.assertEqual(self.winners("bold"), [None] * 6)
        self.assertEqual(winner(self.table.history(), (2, 2, 0), "bold"), own)
        self.assert_runs(("abcdef", ()))
        self.assert_runs(("x", (("bold", "on"),)), ("y", ()), block=(2, 1))


class Runs(Marks):
    def test_nothing_shown(self):
        self.assertEqual(runs_of((), ROOT), ())
        self.table.do(2, "block", ROOT, None)
        self.assert_runs(block=(2, 1))
        self.table.do(1, "undo", 1)
        self.assert_runs()

    def test_overlapping_marks(self):
        self.mark(2, 0, 3, "bold", "on")
        self.mark(3, 2, 4, "link", "far")
        bold, link = ("bold", "on"), ("link", "far")
        self.assert_runs(("ab", (bold,)), ("cd", (bold, link)), ("e", (link,)), ("f", ()))

    def test_neighbours_with_equal_marks_are_put_together(self):
        self.mark(2, 0, 1, "bold", "on")
        self.mark(3, 2, 3, "bold", "on")
        self.assert_runs(("abcd", (("bold", "on"),)), ("ef", ()))
        self.mark(3, 3, 3, "bold", "off")
        self.assert_runs(("abc", (("bold", "on"),)), ("d", (("bold", "off"),)), ("ef", ()))

    def test_over_signs_that_are_not_shown(self):
        self.mark(2, 2, 3, "bold", "on")
        self.table.do(3, "erase", ((1, 1, 2), (1, 1, 3)))
        self.assert_runs(("abef", ()))

    def test_longer_than_a_text(self):
        self.table.deeds = [(1, n, (n - 1, 0, 0, 0), ("write", ROOT, (1, n - 1, 7) if n > 1 else None, None, "abcdefgh"))
                            for n in range(1, 39)]
        self.assert_runs(("abcdefgh" * 38, ()))
        self.table.deeds.append((1, 39, (38, 0, 0, 0), ("mark", (1, 1, 1), (1, 38, 6), "bold", "on")))
        self.assert_runs(("a", ()), (("abcdefgh" * 38)[1:-1], (("bold", "on"),)), ("h", ()))

    def test_blocks_that_are_not_shown(self):
        self.table.do(2, "block", ROOT, None)
        self.table.write(2, (2, 1), 0, "xy")
        self.table.do(2, "mark", (2, 2, 1), (2, 2, 1), "bold", "on")
        self.table.do(2, "drop", (2, 1))
        self.assert_runs(("x", ()), ("y", (("bold", "on"),)), block=(2, 1))
        self.table.do(2, "undo", 1)
        self.assert_runs(("x", ()), ("y", (("bold", "on"),)), block=(2, 1))

    def test_blanks(self):
        self.table.write(2, ROOT, 3, "  ")
        self.mark(2, (2, 1, 1), 3, "bold", "on")
        self.assert_runs(("abc ", ()), (" d", (("bold", "on"),)), ("ef", ()))


class ByDice(Marks):
    def histories(self, dice, many):
        """Histories with more marks than the dice give otherwise, told by hands that know more or less."""
        for _ in range(many):
            table = random_table(dice, dice.randint(3, 18), longest=4, meeting=dice.choice((0.2, 0.6)))
            for _ in range(12):
                hand = dice.randint(1, 4)
                table.learn(hand, dice.randint(1, 4))
                row = table.known(hand).open_row(ROOT)
                if row and table.known(hand).fits(table.deed(hand, "block", ROOT, None)):
                    first = dice.randrange(len(row))
                    last = dice.randrange(first, len(row))
                    table.do(hand, "mark", row[first], row[last], dice.choice(NAMES), dice.choice(WORTHS))
            yield tuple(dice.sample(table.deeds, len(table.deeds)))

    def test_all_functions(self):
        dice = random.Random(18)
        many = 0
        for history in self.histories(dice, 40):
            plain = Model(history)
            for sign in plain.signs():
                told = marks_at(history, sign)
                self.assertEqual(told, plain.marks_at(sign))
                many += len(told)
                for name in NAMES:
                    deed = plain.winner(sign, name)
                    self.assertEqual(winner(history, sign, name), None if deed is None else deed[:2])
            for block in plain.blocks():
                runs = runs_of(history, block)
                self.assertEqual(runs, plain.runs(block))
                self.assertEqual("".join(text for text, _ in runs), block_text(history, block))
                self.assertTrue(all(one[1] != other[1] for one, other in zip(runs, runs[1:])))
                each = [told for text, told in runs for _ in text]
                self.assertEqual(each, [marks_at(history, sign) for sign in shown_signs(history, block)])
        self.assertGreater(many, 100)


class Wrong(Marks):
    def test_blocks_and_signs_that_are_not_there(self):
        self.table.do(2, "block", ROOT, None)
        for history in (self.table.history(), ()):
            for sign in ((1, 1, 6), (2, 1, 0), (1, 2, 0), (3, 1, 0), (0, 0, 0), (1, 1, -1)):
                for ask, others in ((winner, ("bold",)), (marks_at, ())):
                    with self.assertRaises(NoSign) as caught:
                        ask(history, sign, *others)
                    self.assertEqual(caught.exception.sign, sign)
            for block in ((1, 1), (1, 2), (2, 2), (4, 1), (5, 1), (0, 1), (1, 0)):
                with self.assertRaises(NoBlock) as caught:
                    runs_of(history, block)
                self.assertEqual(caught.exception.block, block)

    def test_no_histories(self):
        for value in (None, [None], [(1, 2, (1, 0, 0, 0), ("say",))], ((2, 1, NOUGHT, ("settle",)),)):
            for ask, others in ((winner, ((9, 9, 9), "bold")), (marks_at, ((9, 9, 9),)), (runs_of, ((9, 9),))):
                with self.assertRaises(InvalidHistory) as caught:
                    ask(value, *others)
                self.assertIs(caught.exception.value, value)

    def test_defined_in_its_module(self):
        for name in ("winner", "marks_at", "runs_of"):
            self.assertEqual(getattr(marks, name).__module__, "quillmoot.marks")


if __name__ == "__main__":
    unittest.main()
