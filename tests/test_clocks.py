"""Promise [5], and [1] and [2] where clocks need them."""

import copy
import itertools
import unittest

from quillmoot import clocks
from quillmoot.clocks import NOUGHT, is_clock, is_within, joined, met, order_of

BIG = 10 ** 40

# pairs of clocks with what order_of tells of them
ORDERS = (
    ((0, 0, 0, 0), (0, 0, 0, 0), "same"),
    ((3, 1, 4, 1), (3, 1, 4, 1), "same"),
    ((BIG, 0, BIG, 1), (BIG, 0, BIG, 1), "same"),
    ((0, 0, 0, 0), (1, 0, 0, 0), "before"),
    ((0, 0, 0, 0), (0, 0, 0, 1), "before"),
    ((1, 2, 3, 4), (1, 2, 4, 4), "before"),
    ((1, 2, 3, 4), (2, 3, 4, 5), "before"),
    ((9, 9, 9, 9), (10, 10, 10, 10), "before"),
    ((BIG, 0, 0, 0), (BIG + 1, 0, 0, 0), "before"),
    ((1, 0, 0, 0), (0, 1, 0, 0), "apart"),
    ((0, 0, 0, 1), (1, 0, 0, 0), "apart"),
    ((5, 5, 5, 4), (5, 5, 4, 5), "apart"),
    ((2, 0, 0, 0), (1, 9, 9, 9), "apart"),
    ((0, 0, 0, 2), (9, 9, 9, 1), "apart"),
    ((BIG, 0, 0, BIG), (BIG, 0, 1, BIG - 1), "apart"),
)

CLOCKS = ((0, 0, 0, 0), (1, 2, 3, 4), (4, 3, 2, 1), (999999, 0, 999999, 0), (BIG, BIG + 1, 0, 7))

NO_CLOCKS = (
    # lists, and tuples within
    [0, 0, 0, 0], [1, 2, 3, 4], ((0, 0, 0, 0),), (0, 0, 0, (0,)), ((0,), 0, 0, 0), (0, 0, [0], 0),
    ((0, 0), (0, 0)), ((), (), (), ()), ([], [], [], []),
    # too few and too many
    (), (0,), (0, 0), (0, 0, 0), (0, 0, 0, 0, 0), (1, 2, 3), (1, 2, 3, 4, 5), (0,) * 8,
    # numbers below 0
    (-1, 0, 0, 0), (0, -1, 0, 0), (0, 0, -1, 0), (0, 0, 0, -1), (-BIG, 0, 0, 0), (-1, -2, -3, -4),
    # truth values
    (True, 0, 0, 0), (0, True, 0, 0), (0, 0, False, 0), (0, 0, 0, False), (True, True, True, True),
    (False, False, False, False),
    # None and strings
    (None, 0, 0, 0), (0, 0, 0, None), ("0", 0, 0, 0), (0, 0, 0, "0"), ("", 0, 0, 0), ("a", "b", "c", "d"),
    ("1", "2", "3", "4"), (None, None, None, None),
    # no tuples at all
    None, True, False, 0, 1, 4, -1, BIG, "", "0", "0000", "0.0.0.0", "(0, 0, 0, 0)", "abcd", [], [[]], [()],
)


class IsClock(unittest.TestCase):
    def test_clocks(self):
        for value in CLOCKS + (NOUGHT,):
            with self.subTest(value=value):
                self.assertIs(is_clock(value), True)
                self.assertIs(is_clock(value=value), True)

    def test_each_number_from_nought_on(self):
        for at in range(4):
            for many in (0, 1, 2, 9, 10, 999999, 1000000, BIG):
                value = tuple(many if k == at else 0 for k in range(4))
                with self.subTest(value=value):
                    self.assertIs(is_clock(value), True)

    def test_other_values(self):
        for value in NO_CLOCKS:
            with self.subTest(value=value):
                self.assertIs(is_clock(value), False)

    def test_a_wrong_part_in_each_place(self):
        for at in range(4):
            for wrong in (-1, -BIG, True, False, None, "", "1", "a", (), (0,), [], [0], (0, 0, 0, 0)):
                value = tuple(wrong if k == at else 1 for k in range(4))
                with self.subTest(value=value):
                    self.assertIs(is_clock(value), False)

    def test_deep_values(self):
        for shell in (lambda x: (x,), lambda x: [x], lambda x: (x, x), lambda x: (x, 0, 0, 0), lambda x: (0, 0, 0, x)):
            value = 0
            for _ in range(8):
                value = shell(value)
            with self.subTest(value=value):
                self.assertIs(is_clock(value), False)
        value = []
        for _ in range(29):
            value = [value]
        self.assertIs(is_clock(value), False)
        self.assertIs(is_clock((value, value, value, value)), False)

    def test_argument_is_not_changed(self):
        for value in NO_CLOCKS:
            before = copy.deepcopy(value)
            is_clock(value)
            self.assertEqual(value, before)


class JoinedAndMet(unittest.TestCase):
    def test_nought(self):
        self.assertEqual(NOUGHT, (0, 0, 0, 0))
        self.assertIsInstance(NOUGHT, tuple)
        for clock in CLOCKS:
            self.assertEqual(joined(NOUGHT, clock), clock)
            self.assertEqual(joined(clock, NOUGHT), clock)
            self.assertEqual(met(NOUGHT, clock), NOUGHT)
            self.assertEqual(met(clock, NOUGHT), NOUGHT)

    def test_place_by_place(self):
        a, b = (1, 20, 3, 40), (10, 2, 30, 4)
        self.assertEqual(joined(a, b), (10, 20, 30, 40))
        self.assertEqual(met(a, b), (1, 2, 3, 4))
        a, b = (5, 0, 7, 7), (5, 1, 6, 8)
        self.assertEqual(joined(a, b), (5, 1, 7, 8))
        self.assertEqual(met(a, b), (5, 0, 6, 7))

    def test_numbers_of_many_figures(self):
        a, b = (BIG, 9, 100, BIG - 1), (BIG + 1, 10, 99, BIG)
        self.assertEqual(joined(a, b), (BIG + 1, 10, 100, BIG))
        self.assertEqual(met(a, b), (BIG, 9, 99, BIG - 1))

    def test_by_name_and_by_position(self):
        a, b = (1, 2, 0, 0), (2, 1, 0, 3)
        self.assertEqual(joined(a=a, b=b), (2, 2, 0, 3))
        self.assertEqual(joined(b=b, a=a), (2, 2, 0, 3))
        self.assertEqual(met(a=a, b=b), (1, 1, 0, 0))
        self.assertEqual(met(b=b, a=a), (1, 1, 0, 0))

    def test_are_clocks(self):
        for a, b in itertools.product(CLOCKS, repeat=2):
            with self.subTest(a=a, b=b):
                self.assertIs(is_clock(joined(a, b)), True)
                self.assertIs(is_clock(met(a, b)), True)

    def test_alike(self):
        for clock in CLOCKS:
            self.assertEqual(joined(clock, clock), clock)
            self.assertEqual(met(clock, clock), clock)

    def test_small_clocks_against_the_words(self):
        small = list(itertools.product(range(3), repeat=4))
        for a, b in itertools.product(small, repeat=2):
            greater = (max(a[0], b[0]), max(a[1], b[1]), max(a[2], b[2]), max(a[3], b[3]))
            lesser = (min(a[0], b[0]), min(a[1], b[1]), min(a[2], b[2]), min(a[3], b[3]))
            self.assertEqual(joined(a, b), greater)
            self.assertEqual(met(a, b), lesser)


class Order(unittest.TestCase):
    def test_the_four_words(self):
        turned = {"same": "same", "before": "behind", "apart": "apart"}
        for a, b, word in ORDERS:
            with self.subTest(a=a, b=b):
                self.assertEqual(order_of(a, b), word)
                self.assertEqual(order_of(b, a), turned[word])

    def test_within(self):
        for a, b, word in ORDERS:
            with self.subTest(a=a, b=b):
                self.assertIs(is_within(a, b), word in ("same", "before"))
                self.assertIs(is_within(b, a), word == "same")

    def test_one_number_above_is_enough(self):
        for at in range(4):
            above = tuple(6 if k == at else 0 for k in range(4))
            self.assertIs(is_within(above, (5, 5, 5, 5)), False)
            self.assertIs(is_within((5, 5, 5, 5), above), False)
            self.assertEqual(order_of(above, (5, 5, 5, 5)), "apart")
            one_more = tuple(6 if k == at else 5 for k in range(4))
            self.assertIs(is_within((5, 5, 5, 5), one_more), True)
            self.assertIs(is_within(one_more, (5, 5, 5, 5)), False)
            self.assertEqual(order_of((5, 5, 5, 5), one_more), "before")
            self.assertEqual(order_of(one_more, (5, 5, 5, 5)), "behind")

    def test_by_name_and_by_position(self):
        a, b = (0, 0, 0, 1), (0, 0, 0, 2)
        self.assertIs(is_within(a=a, b=b), True)
        self.assertIs(is_within(b=b, a=a), True)
        self.assertEqual(order_of(a=a, b=b), "before")
        self.assertEqual(order_of(b=b, a=a), "before")

    def test_small_clocks_against_the_words(self):
        small = list(itertools.product(range(3), repeat=4))
        for a, b in itertools.product(small, repeat=2):
            within = a[0] <= b[0] and a[1] <= b[1] and a[2] <= b[2] and a[3] <= b[3]
            behind = a[0] >= b[0] and a[1] >= b[1] and a[2] >= b[2] and a[3] >= b[3]
            word = {(True, True): "same", (True, False): "before", (False, True): "behind"}.get((within, behind), "apart")
            self.assertIs(is_within(a, b), within)
            self.assertEqual(order_of(a, b), word)

    def test_equal_calls_have_equal_results(self):
        for a, b, _ in ORDERS:
            for act in (joined, met, is_within, order_of):
                self.assertEqual(act(a, b), act(a, b))


class Interface(unittest.TestCase):
    def test_defined_in_its_module(self):
        for name in ("is_clock", "joined", "met", "is_within", "order_of"):
            self.assertEqual(getattr(clocks, name).__module__, "quillmoot.clocks")


if __name__ == "__main__":
    unittest.main()
