"""Promise [14]: signs that are shut, passed and let go, and the open row."""

import itertools
import random
import unittest

from quillmoot.errors import InvalidHistory, NoBlock
from quillmoot.histories import fits, is_history, part
from quillmoot.rows import shown_signs
from quillmoot.signs import let_go_signs, open_row, passed_signs, row_of, shut_signs
from tests.makers import NOUGHT, Table, random_going, random_history, random_settling
from tests.model import Model

ROOT = (0, 0)
ASKS = (shut_signs, passed_signs, let_go_signs, open_row)
HANDS = (1, 2, 3, 4)


class Going(unittest.TestCase):
    def setUp(self):
        """One has typed abcd, and all know it."""
        self.table = Table()
        self.table.write(1, ROOT, 0, "abcd")
        self.table.meet()

    def told(self, ask, block=ROOT, clock=None):
        """The places of the signs of 1.1 of which a function tells; other signs as they are."""
        history = self.table.history()
        if clock is not None:
            history = part(history, clock)
        told = ask(history, block)
        self.assertIsInstance(told, tuple)
        self.assertEqual(told, ask(history=list(history[::-1]), block=block))
        return [sign[2] if sign[:2] == (1, 1) else sign for sign in told]

    def assert_goes(self, shut, passed, gone):
        self.assertIs(is_history(self.table.history()), True)
        self.assertEqual((self.told(shut_signs), self.told(passed_signs), self.told(let_go_signs)), (shut, passed, gone))
        row = self.told(lambda history, block: row_of(history, block))
        self.assertEqual(self.told(open_row), [sign for sign in row if sign not in passed])


class Shut(Going):
    def test_an_erase_from_its_settle_on(self):
        table = self.table
        table.do(2, "erase", ((1, 1, 1), (1, 1, 3)))
        self.assert_goes([], [], [])
        table.do(1, "settle")
        self.assert_goes([], [], [])
        table.learn(1, 2)
        self.assert_goes([], [], [])
        table.do(1, "settle")
        self.assert_goes([1, 3], [], [])

    def test_a_write_that_does_not_count(self):
        table = self.table
        table.do(1, "undo", 1)
        self.assert_goes([], [], [])
        table.do(1, "settle")
        self.assert_goes([0, 1, 2, 3], [], [])

    def test_a_barred_write(self):
        table = self.table
        table.write(2, ROOT, 2, "x")
        table.do(1, "bar", 2)
        table.learn(1, 2)
        self.assert_goes([], [], [])
        table.do(1, "settle")
        self.assert_goes([(2, 1, 0)], [], [])

    def test_what_counts_is_not_shut(self):
        table = self.table
        table.write(2, ROOT, 2, "x")
        table.do(2, "undo", 1)
        table.do(2, "redo", 1)
        table.do(3, "erase", ((1, 1, 0),))
        table.do(3, "undo", 1)
        table.do(4, "erase", ((1, 1, 1),))
        table.do(1, "bar", 4)
        table.meet()
        table.do(1, "settle")
        self.assert_goes([], [], [])

    def test_a_late_undo_of_an_erase(self):
        table = self.table
        table.do(2, "erase", ((1, 1, 2),))
        table.learn(1, 2)
        table.do(2, "undo", 1)
        table.do(1, "settle")
        self.assert_goes([2], [], [])

    def test_a_late_undo_of_a_write(self):
        table = self.table
        table.write(2, ROOT, 0, "x")
        table.learn(1, 2)
        table.do(2, "undo", 1)
        table.do(1, "settle")
        self.assert_goes([], [], [])

    def test_signs_of_several_blocks(self):
        table = self.table
        table.do(2, "block", ROOT, None)
        table.write(2, (2, 1), 0, "xy")
        table.do(2, "erase", ((1, 1, 3), (2, 2, 0)))
        table.meet()
        table.do(1, "settle")
        self.assert_goes([3], [], [])
        self.assertEqual(self.told(shut_signs, (2, 1)), [(2, 2, 0)])
        table.round()
        table.round()
        self.assert_goes([3], [3], [3])
        # y is below x
        self.assertEqual([self.told(ask, (2, 1)) for ask in ASKS], [[(2, 2, 0)], [], [], [(2, 2, 0), (2, 2, 1)]])


class Passed(Going):
    def take_away(self, *places):
        """Two erases these, one settles it."""
        self.table.do(2, "erase", tuple((1, 1, k) for k in places))
        self.table.learn(1, 2)
        self.table.do(1, "settle")

    def test_a_deed_of_each_hand_behind_the_settle(self):
        table = self.table
        self.take_away(3)
        self.assert_goes([3], [], [])
        table.meet()
        self.assert_goes([3], [], [])
        # the owner's own deed must come behind the settle, too
        for hand, passed in ((3, []), (1, []), (2, []), (4, [3])):
            self.assert_goes([3], [], [])
            table.do(hand, "say")
            self.assert_goes([3], passed, [])
        self.assertEqual(self.told(open_row), [0, 1, 2])

    def test_a_hand_that_has_not_heard_of_it(self):
        table = self.table
        self.take_away(3)
        for hand in (1, 2, 3):
            table.learn(hand, 1)
            table.do(hand, "say")
        for _ in range(3):
            table.do(4, "say")
        self.assert_goes([3], [], [])
        table.learn(4, 1)
        self.assert_goes([3], [], [])
        table.do(4, "say")
        self.assert_goes([3], [3], [])

    def test_a_hand_that_knows_an_earlier_settle(self):
        table = self.table
        self.take_away(3)
        table.meet()
        table.do(2, "erase", ((1, 1, 2),))
        table.learn(1, 2)
        table.do(1, "settle")
        for hand in HANDS:
            if hand != 4:
                table.learn(hand, 1)
            table.do(hand, "say")
        self.assert_goes([2, 3], [3], [])
        table.learn(4, 1)
        table.do(4, "say")
        self.assert_goes([2, 3], [2, 3], [])

    def test_all_signs_of_the_tree(self):
        table = self.table
        # b, c and d hang below a, d below c
        self.take_away(0, 2)
        table.round()
        self.assert_goes([0, 2], [], [])
        self.take_away(3)
        table.round()
        self.assert_goes([0, 2, 3], [2, 3], [])
        table.round()
        self.assert_goes([0, 2, 3], [2, 3], [2, 3])
        self.take_away(1)
        table.round()
        self.assert_goes([0, 1, 2, 3], [0, 1, 2, 3], [2, 3])
        table.round()
        self.assert_goes([0, 1, 2, 3], [0, 1, 2, 3], [0, 1, 2, 3])
        self.assertEqual(self.told(open_row), [])

    def test_let_go_behind_one_more_round(self):
        table = self.table
        self.take_away(3)
        table.round()
        self.assert_goes([3], [3], [])
        for hand, gone in ((1, []), (2, []), (3, []), (4, [3])):
            self.assert_goes([3], [3], [])
            table.do(hand, "say")
            self.assert_goes([3], [3], gone)

    def test_marks_and_notes_hold(self):
        for word, more in (("mark", ("bold", "on")), ("note", ("so",))):
            for first, last, passed in ((2, 3, []), (1, 3, []), (3, 3, []), (0, 2, [3]), (2, 2, [3]), (1, 1, [2, 3])):
                self.setUp()
                table = self.table
                table.do(3, word, (1, 1, first), (1, 1, last), *more)
                table.meet()
                self.take_away(2, 3)
                table.round()
                table.round()
                self.assert_goes([2, 3], passed, passed)

    def test_a_mark_that_does_not_count_holds_too(self):
        table = self.table
        table.do(3, "mark", (1, 1, 3), (1, 1, 3), "bold", "on")
        table.do(3, "undo", 1)
        table.meet()
        self.take_away(2, 3)
        table.round()
        table.round()
        self.assert_goes([2, 3], [], [])

    def test_a_mark_on_a_sign_below(self):
        table = self.table
        table.write(3, ROOT, 4, "xy")
        table.do(3, "note", (3, 1, 0), (3, 1, 0), "so")
        table.do(3, "undo", 1)
        table.do(3, "erase", ((3, 1, 0), (3, 1, 1)))
        table.meet()
        self.take_away(3)
        table.round()
        # y is below x, which the note names, and x below d
        self.assert_goes([3, (3, 1, 0), (3, 1, 1)], [(3, 1, 1)], [])

    def test_a_mark_that_a_hand_did_without_knowing(self):
        table = self.table
        self.take_away(3)
        table.do(4, "note", (1, 1, 3), (1, 1, 3), "so")
        for hand in (1, 2, 3):
            table.learn(hand, 1)
            table.do(hand, "say")
        table.learn(4, 1)
        table.do(4, "say")
        self.assert_goes([3], [], [])

    def test_somebody_typed_beside_it(self):
        table = self.table
        table.do(4, "say")
        self.take_away(3)
        for hand in (1, 2, 3):
            table.learn(hand, 1)
            table.do(hand, "say")
        clock = table.clocks[3]
        table.meet(1, 2, 3)
        table.write(4, ROOT, 4, "x")        # behind d, without a look at the settle
        table.meet()
        for hand in HANDS:
            table.do(hand, "say")
        self.assert_goes([3], [], [])
        self.assertEqual(self.told(open_row), [0, 1, 2, 3, (4, 2, 0)])
        self.assertEqual(self.told(passed_signs, ROOT, clock), [])

    def test_passed_and_open_again(self):
        # four knows that d is shut, but not that three knows, too
        table = self.table
        self.take_away(3)
        for hand in (2, 4):
            table.learn(hand, 1)
            table.do(hand, "say")
        table.learn(3, 1)
        table.write(4, ROOT, 4, "x")
        table.do(3, "say")
        table.do(1, "say")
        clock = (3, 2, 1, 1)
        self.assertEqual(self.told(passed_signs, ROOT, clock), [3])
        self.assertEqual(self.told(open_row, ROOT, clock), [0, 1, 2])
        self.assertEqual(self.told(let_go_signs, ROOT, clock), [])
        self.assert_goes([3], [], [])
        self.assertEqual(self.told(open_row), [0, 1, 2, 3, (4, 2, 0)])

    def test_an_erase_that_a_hand_has_not_heard_of(self):
        table = self.table
        table.do(4, "erase", ((1, 1, 3),))
        self.take_away(3)
        for _ in range(3):
            for hand in (1, 2, 3):
                table.learn(hand, 1, 2, 3)
                table.do(hand, "say")
            table.learn(4, 1, 2, 3)
            table.do(4, "say")
        # passed, but the others have not heard of the erase by four
        self.assert_goes([3], [3], [])
        table.meet()
        for hand, gone in ((1, []), (2, []), (4, []), (3, [3])):
            self.assert_goes([3], [3], [])
            table.do(hand, "say")
            self.assert_goes([3], [3], gone)

    def test_an_erase_that_one_hand_alone_has_not_heard_of(self):
        for eraser, late in itertools.permutations(HANDS, 2):
            self.setUp()
            table = self.table
            self.take_away(3)
            for hand in HANDS:
                table.learn(hand, 1)
                table.do(hand, "say")
            others = [hand for hand in HANDS if hand != eraser]
            for hand in others:
                table.learn(hand, eraser)
            table.do(eraser, "erase", ((1, 1, 3),))     # it does not know what the others said
            table.meet(*others)
            table.do(late, "say")
            for hand in others:
                if hand != late:
                    table.learn(hand, eraser)
                    table.do(hand, "say")
            table.learn(eraser, *others)
            table.do(eraser, "say")
            self.assert_goes([3], [3], [])
            table.learn(late, eraser)
            self.assert_goes([3], [3], [])
            table.do(late, "say")
            self.assert_goes([3], [3], [3])

    def test_the_owners_first_deed_is_the_settle(self):
        for speakers in itertools.chain.from_iterable(itertools.combinations(HANDS, many) for many in range(5)):
            table = self.table = Table()
            table.write(2, ROOT, 0, "ab")
            table.do(2, "erase", ((2, 1, 1),))
            table.learn(1, 2)
            table.do(1, "settle")
            table.meet()
            for hand in speakers:
                table.do(hand, "say")
            passed = [(2, 1, 1)] if len(speakers) == 4 else []
            self.assert_goes([(2, 1, 1)], passed, [])
            table.meet()
            for hand in speakers:
                table.do(hand, "say")
            self.assert_goes([(2, 1, 1)], passed, passed)

    def test_first_and_last_of_a_mark_hold_by_themselves(self):
        x, y, a, b, d = (2, 1, 0), (2, 1, 1), (1, 1, 0), (1, 1, 1), (1, 1, 3)
        for first, last, passed in ((y, a, [3]), (a, d, [y]), (y, d, []), (a, a, [y, 3]), (x, b, [y, 3])):
            for word, more in (("mark", ("bold", "on")), ("note", ("so",))):
                self.setUp()
                table = self.table
                table.write(2, ROOT, 0, "xy")       # y is below x, and x below a
                table.learn(3, 2)
                table.do(3, word, first, last, *more)
                table.meet()
                table.do(2, "erase", (d, y))
                table.learn(1, 2)
                table.do(1, "settle")
                table.round()
                self.assert_goes([y, 3], passed, [])

    def test_a_write_that_a_hand_has_not_heard_of(self):
        table = self.table
        table.write(4, ROOT, 4, "x")
        table.do(4, "undo", 1)
        self.take_away(3)
        for _ in range(2):
            for hand in (1, 2, 3):
                table.learn(hand, 1, 2, 3)
                table.do(hand, "say")
        # x is below d, and it is neither settled nor known
        self.assert_goes([3], [], [])
        table.meet()
        table.do(1, "settle")
        table.round()
        self.assert_goes([3, (4, 1, 0)], [3, (4, 1, 0)], [])
        table.round()
        self.assert_goes([3, (4, 1, 0)], [3, (4, 1, 0)], [3, (4, 1, 0)])

    def test_a_hand_without_deeds(self):
        table = self.table
        self.take_away(3)
        for _ in range(4):
            table.meet()
            for hand in (1, 2, 3):
                table.do(hand, "say")
        self.assert_goes([3], [], [])

    def test_nothing_is_gone_without_a_settle(self):
        table = self.table
        table.do(2, "erase", ((1, 1, 3),))
        table.round()
        table.round()
        self.assert_goes([], [], [])

    def test_empty_rows(self):
        for ask in ASKS:
            self.assertEqual(ask((), ROOT), ())
            self.assertEqual(ask([(1, 1, NOUGHT, ("block", ROOT, None))], (1, 1)), ())


class ByDice(Going):
    def histories(self, seed, many):
        dice = random.Random(seed)
        makers = (random_going, random_going, random_settling)
        for k in range(many):
            yield dice, tuple(makers[k % 3](dice, 24).deeds)

    def test_all_functions(self):
        told = [0] * 4
        for _, history in self.histories(14, 60):
            plain = Model(history)
            for block in plain.blocks():
                for k, (ask, rows) in enumerate(zip(ASKS, (plain.shut, plain.passed, plain.let_go, plain.open_row))):
                    self.assertEqual(ask(history, block), tuple(rows(block)))
                    told[k] += len(rows(block))
        self.assertGreater(min(told), 10)

    def test_what_is_shown_is_not_passed(self):
        for _, history in self.histories(141, 40):
            for block in Model(history).blocks():
                gone, shown = passed_signs(history, block), shown_signs(history, block)
                self.assertFalse(set(gone) & set(shown))
                self.assertLessEqual(set(let_go_signs(history, block)), set(gone))
                self.assertLessEqual(set(gone), set(shut_signs(history, block)))
                self.assertLessEqual(set(shown), set(open_row(history, block)))

    def test_let_go_stays_so(self):
        many = 0
        for dice, history in self.histories(142, 60):
            plain = Model(history)
            clocks = {deed[2] for deed in history} | {tuple(map(max, zip(dice.choice(history)[2], dice.choice(history)[2])))
                                                      for _ in range(6)}
            for clock in clocks:
                lesser = part(history, clock)
                for block in Model(lesser).blocks():
                    gone = let_go_signs(lesser, block)
                    many += len(gone)
                    self.assertLessEqual(set(gone), set(let_go_signs(history, block)))
                    for sign in gone:
                        for deed in history:
                            if deed not in lesser:
                                self.assertNotIn(deed, plain.namers(sign))
                                self.assertFalse(deed[3][0] == "write" and sign in deed[3][2:4])
        self.assertGreater(many, 10)

    def test_shut_stays_so(self):
        for dice, history in self.histories(143, 30):
            for deed in dice.sample(history, 5):
                lesser = part(history, deed[2])
                for block in Model(lesser).blocks():
                    self.assertLessEqual(set(shut_signs(lesser, block)), set(shut_signs(history, block)))

    def test_writes_fit_between_open_neighbours_alone(self):
        for dice, history in self.histories(144, 20):
            plain = Model(history)
            hand = dice.choice(HANDS)
            seen = plain.clock()
            row = [None] + list(open_row(history, ROOT)) + [None]
            for left in row:
                for right in row[1:]:
                    deed = (hand, seen[hand - 1] + 1, seen, ("write", ROOT, left, right, "q"))
                    barred = plain.fits((hand, seen[hand - 1] + 1, seen, ("block", ROOT, None))) is False
                    near = any((left, right) == (row[k], row[k + 1]) for k in range(len(row) - 1))
                    self.assertIs(fits(history, deed), near and not barred)


class Wrong(Going):
    def test_no_blocks(self):
        for ask in ASKS:
            for block in ((1, 1), (1, 2), (2, 1), (4, 9), (5, 1), (0, 1), (1, 0)):
                with self.assertRaises(NoBlock) as caught:
                    ask(self.table.history(), block)
                self.assertEqual(caught.exception.block, block)
                self.assertRaises(NoBlock, ask, (), block)

    def test_no_histories(self):
        for ask in ASKS:
            for value in (None, [None], [(1, 2, (1, 0, 0, 0), ("say",))], ((2, 1, NOUGHT, ("settle",)),)):
                with self.assertRaises(InvalidHistory) as caught:
                    ask(value, (9, 9))
                self.assertIs(caught.exception.value, value)


if __name__ == "__main__":
    unittest.main()
