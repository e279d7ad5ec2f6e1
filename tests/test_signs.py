"""Promises [12] and [13]: trees and rows of signs, papers of order."""

import inspect
import itertools
import random
import sys
import unittest

from quillmoot import signs
from quillmoot.errors import InvalidHistory, NoBlock, NoSign, Undefined
from quillmoot.histories import is_history, part
from quillmoot.signs import order_holds, order_paper, parent_of, row_of
from tests.deed_samples import ANYTHING, BIG
from tests.makers import NOUGHT, Table, random_history
from tests.model import Model

ROOT = (0, 0)


def deed_signs(own, many):
    return [own + (k,) for k in range(many)]


def long_row(backward=False):
    """Forty deeds of eight signs, each sign below the one ahead of it; or each deed ahead of the last one."""
    deeds, place = [], None
    for n in range(1, 41):
        left, right = (None, place) if backward else (place, None)
        deeds.append((1, n, (n - 1, 0, 0, 0), ("write", ROOT, left, right, "abcdefgh")))
        place = (1, n, 0) if backward else (1, n, 7)
    return deeds


class Signs(unittest.TestCase):
    def setUp(self):
        self.table = Table()

    def row(self, block=ROOT):
        return list(row_of(self.table.history(), block))

    def parent(self, sign):
        return parent_of(self.table.history(), sign)


class Rows(Signs):
    def test_one_deed(self):
        self.table.write(1, ROOT, 0, "abc")
        self.assertEqual(self.row(), deed_signs((1, 1), 3))
        self.assertEqual(row_of(history=self.table.deeds, block=ROOT), ((1, 1, 0), (1, 1, 1), (1, 1, 2)))
        self.assertEqual([self.parent(sign) for sign in self.row()],
                         [(None, "right"), ((1, 1, 0), "right"), ((1, 1, 1), "right")])
        self.assertEqual(parent_of(history=self.table.deeds, sign=(1, 1, 0)), (None, "right"))

    def test_the_overview(self):
        table = self.table
        table.write(1, ROOT, 0, "ac")
        table.learn(2, 1)
        table.write(1, ROOT, 1, "b")
        table.write(2, ROOT, 1, "xy")
        a, c, b, x, y = (1, 1, 0), (1, 1, 1), (1, 2, 0), (2, 1, 0), (2, 1, 1)
        self.assertEqual(self.row(), [a, b, x, y, c])
        # c is a right child of a, so what is typed between them is a left child of c
        self.assertEqual(self.parent(b), (c, "left"))
        self.assertEqual(self.parent(x), (c, "left"))
        self.assertEqual(self.parent(y), (x, "right"))

    def test_ahead_of_all_and_behind_all(self):
        table = self.table
        table.write(1, ROOT, 0, "m")
        table.write(1, ROOT, 0, "ab")
        table.write(1, ROOT, 3, "yz")
        m, a, b, y, z = (1, 1, 0), (1, 2, 0), (1, 2, 1), (1, 3, 0), (1, 3, 1)
        self.assertEqual(self.row(), [a, b, m, y, z])
        self.assertEqual(self.parent(a), (m, "left"))
        self.assertEqual(self.parent(y), (m, "right"))
        table.write(1, ROOT, 2, "n")
        # m stands above b, and not b above m, so between them it is a right child of b
        self.assertEqual(self.parent((1, 4, 0)), (b, "right"))
        self.assertEqual(self.row(), [a, b, (1, 4, 0), m, y, z])

    def test_children_ascend_by_ids_on_both_sides(self):
        table = self.table
        for hand in (4, 2, 3, 1):
            table.write(hand, ROOT, 0, "ab")
        self.assertEqual(self.row(), [(hand, 1, k) for hand in (1, 2, 3, 4) for k in (0, 1)])
        table.meet()
        for hand in (3, 1, 4, 2):
            table.write(hand, ROOT, 0, "xy")
        ahead = [(hand, 2, k) for hand in (1, 2, 3, 4) for k in (0, 1)]
        self.assertEqual(self.row()[:8], ahead)
        for hand in (1, 2, 3, 4):
            self.assertEqual(self.parent((hand, 2, 0)), ((1, 1, 0), "left"))

    def test_by_numbers_and_not_by_figures(self):
        table = self.table
        for _ in range(8):
            table.do(1, "say")
        for _ in range(2):
            table.do(1, "block", ROOT, None)    # 1.9 and 1.10
        # two signs of one hand at one place, of which the later one is typed without a look at the first one
        table.do(1, "write", (1, 9), None, None, "a")
        table.clocks[2] = table.clocks[1]
        table.do(2, "write", (1, 9), (1, 11, 0), None, "b")
        table.do(1, "write", (1, 9), (1, 11, 0), None, "c")
        self.assertEqual(self.row((1, 9)), [(1, 11, 0), (1, 12, 0), (2, 1, 0)])

    def test_runs_of_several_hands_at_one_gap_do_not_mix(self):
        table = self.table
        table.write(1, ROOT, 0, "ac")
        table.meet()
        for hand in (2, 3, 4):
            for k in range(3):
                table.write(hand, ROOT, 1 + k, "n")
        c = (1, 1, 1)
        forward = [(hand, n, 0) for hand in (2, 3, 4) for n in (1, 2, 3)]
        self.assertEqual(self.row(), [(1, 1, 0)] + forward + [c])
        self.table = table = Table()
        table.write(1, ROOT, 0, "ac")
        table.meet()
        for hand in (2, 3, 4):
            for _ in range(3):
                table.write(hand, ROOT, 1, "n")
        backward = [(hand, n, 0) for hand in (2, 3, 4) for n in (3, 2, 1)]
        self.assertEqual(self.row(), [(1, 1, 0)] + backward + [c])

    def test_within_the_runs_of_others(self):
        table = self.table
        table.write(1, ROOT, 0, "abcd")
        table.meet()
        table.write(2, ROOT, 2, "xyz")
        table.write(3, ROOT, 2, "mn")
        table.meet()
        table.write(1, ROOT, 4, "q")        # within xyz, behind y
        table.write(4, ROOT, 5, "r")        # behind z, which is ahead of m
        row = self.row()
        self.assertEqual(row, [(1, 1, 0), (1, 1, 1), (2, 1, 0), (2, 1, 1), (1, 2, 0), (2, 1, 2), (4, 1, 0), (3, 1, 0), (3, 1, 1),
                               (1, 1, 2), (1, 1, 3)])
        self.assertEqual(self.parent((1, 2, 0)), ((2, 1, 2), "left"))
        # z does not stand above m
        self.assertEqual(self.parent((4, 1, 0)), ((2, 1, 2), "right"))

    def test_signs_that_do_not_count_stand_there(self):
        table = self.table
        table.write(2, ROOT, 0, "ab")
        table.learn(3, 2)
        table.write(3, ROOT, 1, "c")
        table.do(2, "undo", 1)
        table.learn(1, 2)
        table.do(1, "bar", 3)
        table.do(1, "erase", ((2, 1, 1),))
        self.assertEqual(self.row(), [(2, 1, 0), (3, 1, 0), (2, 1, 1)])

    def test_each_block_has_its_own_row(self):
        table = self.table
        table.do(2, "block", ROOT, None)
        table.do(2, "block", ROOT, None)
        table.write(2, (2, 1), 0, "ab")
        table.write(2, ROOT, 0, "c")
        table.do(2, "undo", 1)
        self.assertEqual(self.row((2, 1)), [(2, 3, 0), (2, 3, 1)])
        self.assertEqual(self.row(ROOT), [(2, 4, 0)])
        self.assertEqual(self.row((2, 2)), [])
        self.assertEqual(row_of((), ROOT), ())
        self.assertEqual(self.parent((2, 3, 0)), (None, "right"))

    def test_a_row_as_long_as_it_gets(self):
        for backward, row in ((False, [(1, n, k) for n in range(1, 41) for k in range(8)]),
                              (True, [(1, n, k) for n in range(40, 0, -1) for k in range(8)])):
            deeds = long_row(backward)
            limit = sys.getrecursionlimit()
            sys.setrecursionlimit(len(inspect.stack()) + 60)
            try:
                told = list(row_of(deeds, ROOT))
                paper = order_paper(deeds, row[0], row[-1])
                holds = order_holds(deeds, row[0], row[-1], paper), order_holds(deeds, row[-1], row[0], paper[::-1])
            finally:
                sys.setrecursionlimit(limit)
            self.assertEqual(told, row)
            self.assertEqual(holds, (True, False))
            self.assertEqual(parent_of(deeds, (1, 40, 0)), ((1, 39, 0), "left") if backward else ((1, 39, 7), "right"))
        self.assertEqual(len(order_paper(long_row(), (1, 1, 0), (1, 40, 7))[1]), 319)

    def test_each_sign_below_the_one_ahead_by_deeds_of_one_sign(self):
        deeds, places = [], [None, None]
        for n in range(1, 41):
            left, right = places
            deeds.append((1, n, (n - 1, 0, 0, 0), ("write", ROOT, left, right, "a")))
            # by turns to the left and to the right of the last one
            places = [(1, n, 0), right] if n % 2 else [left, (1, n, 0)]
        self.assertIs(is_history(deeds), True)
        self.assertEqual(list(row_of(deeds, ROOT)), Model(deeds).row(ROOT))


class Promise(Signs):
    """The promise in bold in [12], and the model."""

    def tree(self, history, sign):
        row = row_of(history, Model(history).block_of(sign))
        return [x for x in row if sign in self.way_up(history, x)]

    def way_up(self, history, sign):
        found = []
        while sign is not None:
            found.append(sign)
            sign = parent_of(history, sign)[0]
        return found

    def test_rows_and_parents_by_dice(self):
        dice = random.Random(12)
        for _ in range(60):
            history = random_history(dice, dice.randint(2, 24))
            plain = Model(history)
            for block in plain.blocks():
                self.assertEqual(list(row_of(history, block)), plain.row(block))
            for sign in plain.signs():
                self.assertEqual(parent_of(history, sign), plain.tree()[sign])

    def test_between_left_and_right(self):
        dice = random.Random(121)
        for _ in range(60):
            history = random_history(dice, 24)
            for deed in history:
                if deed[3][0] == "write":
                    _, block, left, right, text = deed[3]
                    row = row_of(history, block)
                    for sign in deed_signs(deed[:2], len(text)):
                        at = row.index(sign)
                        self.assertTrue(left is None or row.index(left) < at)
                        self.assertTrue(right is None or at < row.index(right))

    def test_the_row_of_a_part(self):
        dice = random.Random(122)
        for _ in range(40):
            history = random_history(dice, 24)
            for deed in dice.sample(history, 4):
                lesser = part(history, deed[2])
                there = Model(lesser).signs()
                for block in Model(lesser).blocks():
                    self.assertEqual(row_of(lesser, block), tuple(x for x in row_of(history, block) if x in there))

    def test_trees_do_not_mix(self):
        dice = random.Random(123)
        for _ in range(6):
            history = random_history(dice, 14)
            plain = Model(history)
            for block in plain.blocks():
                row = plain.row(block)
                trees = {x: self.tree(history, x) for x in row}
                for x, y in itertools.combinations(row, 2):
                    if y not in trees[x] and x not in trees[y]:
                        self.assertLess(max(row.index(z) for z in trees[x]), min(row.index(z) for z in trees[y]))
                for x in row:
                    for sign in row:
                        _, _, left, right, _ = plain.writer(sign)[3]
                        above = left is None or left in self.way_up(history, x)[1:]
                        if left in trees[x] or (right in trees[x] and above):
                            self.assertIn(sign, trees[x])


class Papers(Signs):
    def sample(self):
        table = self.table
        table.write(1, ROOT, 0, "abc")
        table.meet()
        table.write(2, ROOT, 1, "xy")
        table.write(3, ROOT, 1, "m")
        table.do(4, "block", ROOT, None)
        table.write(4, (4, 1), 0, "q")
        return table.history()

    def test_the_paper_of_pairs(self):
        history = self.sample()
        a, b, c, x, y, m = (1, 1, 0), (1, 1, 1), (1, 1, 2), (2, 1, 0), (2, 1, 1), (3, 1, 0)
        self.assertEqual(self.row(), [a, x, y, m, b, c])
        self.assertEqual(order_paper(history, a, c), ((), ((c, "right"), (b, "right"))))
        self.assertEqual(order_paper(history, c, a), (((c, "right"), (b, "right")), ()))
        self.assertEqual(order_paper(history, y, b), (((y, "right"), (x, "left")), ()))
        self.assertEqual(order_paper(history, y, m), (((y, "right"), (x, "left")), ((m, "left"),)))
        self.assertEqual(order_paper(history, m, c), (((m, "left"),), ((c, "right"),)))
        self.assertEqual(order_paper(history=history, x=a, y=m), ((), ((m, "left"), (b, "right"))))

    def test_under_the_node_above_all(self):
        history = [(1, 1, NOUGHT, ("write", ROOT, None, None, "a")), (3, 1, NOUGHT, ("write", ROOT, None, None, "bc"))]
        paper = (((1, 1, 0), "right"),), (((3, 1, 1), "right"), ((3, 1, 0), "right"))
        self.assertEqual(order_paper(history, (1, 1, 0), (3, 1, 1)), paper)
        self.assertEqual(order_paper(history, (3, 1, 1), (1, 1, 0)), paper[::-1])
        self.assertIs(order_holds(history, (1, 1, 0), (3, 1, 1), paper), True)
        self.assertIs(order_holds(history, (3, 1, 1), (1, 1, 0), paper[::-1]), False)

    def test_all_pairs_by_dice(self):
        dice = random.Random(13)
        for _ in range(12):
            history = random_history(dice, dice.randint(4, 16))
            plain = Model(history)
            for block in plain.blocks():
                row = plain.row(block)
                for x, y in itertools.permutations(dice.sample(row, min(9, len(row))), 2):
                    paper = order_paper(history, x, y)
                    self.assertEqual(list(paper), plain.ways(x, y))
                    self.assertIs(order_holds(history, x, y, paper), row.index(x) < row.index(y))
                    self.assertIs(order_holds(history, y, x, paper), False)

    def test_none_that_is_spoilt_holds(self):
        history = self.sample()
        row = self.row()
        for x, y in itertools.combinations(row, 2):
            paper = order_paper(history, x, y)
            self.assertIs(order_holds(history, x, y, paper), True)
            self.assertIs(order_holds(history=history, x=x, y=y, paper=paper), True)
            for spoilt in self.spoilt(paper, row):
                if repr(spoilt) != repr(paper):
                    self.assertIs(order_holds(history, x, y, spoilt), False, spoilt)
                    self.assertIs(order_holds(history, y, x, spoilt), False, spoilt)

    def spoilt(self, paper, row):
        """Papers that are not quite this one."""
        way, other = paper
        yield from [(other, way), list(paper), (list(way), other), (way, list(other)), paper + ((),), (way,), (), (way, None),
                    (None, other), (way, other, None), (way, other + way), (other, other), (way, way), ((), ())]
        for k, told in enumerate(paper):
            for changed in self.spoilt_ways(told, row):
                yield (paper[:k] + (changed,) + paper[k + 1:])

    def spoilt_ways(self, way, row):
        if way:
            yield way[:-1]
            yield way[1:]
            yield ()
            yield way + way[-1:]
            yield tuple(reversed(way)) if len(way) > 1 else None
        for sign in row[:3] + [(1, 2, 0), None, ROOT]:
            yield way + ((sign, "right"),)
            yield way + ((sign, "left"),)
            yield ((sign, "right"),) + way
        for at, (sign, side) in enumerate(way):
            turned = "left" if side == "right" else "right"
            for step in ((sign, turned), (sign, side.upper()), (sign, None), (sign, True), [sign, side], (list(sign), side), (sign,),
                         (sign, side, side), (side, sign), sign, (sign[:2], side), (sign + (0,), side), ((sign[0], sign[1], True), side),
                         (tuple(bool(k) if k in (0, 1) else k for k in sign), side), ((4, 2, 0), side)):
                if repr(step) != repr((sign, side)):
                    yield way[:at] + (step,) + way[at + 1:]

    def test_truth_values_are_no_numbers(self):
        history = [(1, 1, NOUGHT, ("write", ROOT, None, None, "ab"))]
        a, b = (1, 1, 0), (1, 1, 1)
        paper = order_paper(history, a, b)
        self.assertIs(order_holds(history, a, b, paper), True)
        for x, y, told in ((a, b, ((), (((1, 1, True), "right"),))), (a, b, ((), (((True, 1, 1), "right"),))),
                           ((1, 1, False), b, paper), ((True, 1, 0), b, paper), (a, (1, True, 1), paper), (a, (1, 1, True), paper)):
            self.assertIs(order_holds(history, x, y, told), False)

    def test_the_paper_of_another_pair(self):
        history = self.sample()
        row = self.row()
        papers = {(x, y): order_paper(history, x, y) for x, y in itertools.permutations(row, 2)}
        for (x, y), (key, paper) in itertools.product(papers, papers.items()):
            self.assertIs(order_holds(history, x, y, paper), (x, y) == key and row.index(x) < row.index(y))

    def test_a_paper_with_a_higher_node(self):
        history = self.sample()
        b, c, x, y = (1, 1, 1), (1, 1, 2), (2, 1, 0), (2, 1, 1)
        # up to the node above all, where both ways come by the same sign
        self.assertIs(order_holds(history, y, c, (((y, "right"), (x, "left")), ((c, "right"),))), True)
        for tail in (((b, "right"),), ((b, "right"), ((1, 1, 0), "right"))):
            self.assertIs(order_holds(history, y, c, (((y, "right"), (x, "left")) + tail, ((c, "right"),) + tail)), False)

    def test_alike_and_of_unlike_blocks(self):
        history = self.sample()
        for x, y in (((1, 1, 0), (1, 1, 0)), ((1, 1, 0), (4, 2, 0)), ((4, 2, 0), (3, 1, 0)), ((4, 2, 0), (4, 2, 0))):
            with self.assertRaises(Undefined) as caught:
                order_paper(history, x, y)
            self.assertEqual(caught.exception.what, "order")
            for paper in (((), ()), ((), ((y, "right"),)), (((x, "right"),), ((y, "right"),)), None):
                self.assertIs(order_holds(history, x, y, paper), False)

    def test_no_signs(self):
        history = self.sample()
        a, wrong, worse = (1, 1, 0), (1, 1, 3), (9, 9, 9)
        for x, y, told in ((wrong, a, wrong), (a, wrong, wrong), (wrong, worse, wrong), (worse, wrong, worse), (wrong, wrong, wrong),
                           ((1, 2, 0), a, (1, 2, 0)), (a, (4, 1, 0), (4, 1, 0))):
            with self.assertRaises(NoSign) as caught:
                order_paper(history, x, y)
            self.assertEqual(caught.exception.sign, told)
            for paper in (((), ((a, "right"),)), ((), ()), ((), ((y, "right"),))):
                self.assertIs(order_holds(history, x, y, paper), False)

    def test_any_values(self):
        history = self.sample()
        a, b = (1, 1, 0), (1, 1, 1)
        paper = order_paper(history, a, b)
        deep = a
        for _ in range(28):
            deep = (deep,)
        for value in ANYTHING + (deep, [1, 1, 0], (1, 1), (1, 1, 0, 0), [[], [[b, "right"]]], ((), ((b, "right"),) * 400)):
            self.assertIs(order_holds(history, value, b, paper), value == a)
            self.assertIs(order_holds(history, a, value, paper), False)
            self.assertIs(order_holds(history, value, value, value), False)
            self.assertIs(order_holds(history, a, b, value), False)
            self.assertIs(order_holds(history, a, b, (value, paper[1])), value == ())
            self.assertIs(order_holds(history, a, b, (paper[0], value)), False)
            self.assertIs(order_holds(history, a, b, (paper[0], (value,))), False)
            self.assertIs(order_holds(history, a, b, (paper[0], ((value, "right"),))), False)
            self.assertIs(order_holds(history, a, b, (paper[0], ((b, value),))), False)


class Wrong(Signs):
    def test_blocks_and_signs_that_are_not_there(self):
        self.table.write(1, ROOT, 0, "ab")
        self.table.do(2, "block", ROOT, None)
        history = self.table.history()
        for block in ((1, 1), (2, 2), (1, 2), (3, 1), (4, 999999), (5, 1), (0, 1), (1, 0), (False, False), (2, True), [2, 1], [0, 0],
                      None, 0):
            with self.assertRaises(NoBlock) as caught:
                row_of(history, block)
            self.assertEqual(caught.exception.block, block)
            self.assertRaises(NoBlock, row_of, (), block)
        for sign in ((1, 1, 2), (1, 2, 0), (2, 1, 0), (3, 1, 0), (1, 1, 999999), (1, 1, -1), (0, 0, 0), (1, 1, BIG), (1, 1, False),
                     [1, 1, 0], None, ROOT):
            with self.assertRaises(NoSign) as caught:
                parent_of(history, sign)
            self.assertEqual(caught.exception.sign, sign)
            self.assertRaises(NoSign, parent_of, (), sign)

    def test_no_histories(self):
        for value in (None, [None], [(1, 2, (1, 0, 0, 0), ("say",))], ((2, 1, NOUGHT, ("settle",)),)):
            for ask, others in ((row_of, ((9, 9),)), (parent_of, ((9, 9, 9),)), (order_paper, ((9, 9, 9), (9, 9, 9))),
                                (order_holds, (None, None, None))):
                with self.assertRaises(InvalidHistory) as caught:
                    ask(value, *others)
                self.assertIs(caught.exception.value, value)

    def test_defined_in_its_module(self):
        for name in ("row_of", "parent_of", "order_paper", "order_holds", "shut_signs", "passed_signs", "let_go_signs", "open_row"):
            self.assertEqual(getattr(signs, name).__module__, "quillmoot.signs")


if __name__ == "__main__":
    unittest.main()
