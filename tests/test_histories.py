"""Promise [8]: histories, their parts and unions, clocks and times."""

import copy
import itertools
import random
import unittest

from quillmoot import histories
from quillmoot.errors import InvalidClock, InvalidHistory, Undefined, Unlike
from quillmoot.histories import (
    clock_of, fits, history_of, is_cut, is_history, part, past_of, time_of, united)
from tests import model
from tests.deed_samples import ANYTHING, BIG, wrong_acts
from tests.makers import NOUGHT, Table, random_history, spoilt
from tests.model import Model

ROOT = (0, 0)
SAY = ("say",)

# one types, two and three hear of it and do something each, four hears of two alone, one of all
ONE = (1, 1, (0, 0, 0, 0), ("write", ROOT, None, None, "ac"))
TWO = (2, 1, (1, 0, 0, 0), ("write", ROOT, (1, 1, 0), (1, 1, 1), "b"))
THREE = (3, 1, (1, 0, 0, 0), ("erase", ((1, 1, 1),)))
FOUR = (4, 1, (1, 1, 0, 0), ("mark", (1, 1, 0), (2, 1, 0), "bold", "on"))
FAR = (4, 2, (1, 1, 0, 1), SAY)
NEAR = (1, 2, (1, 1, 1, 2), ("settle",))
LONE = (2, 2, (1, 1, 0, 0), ("block", ROOT, None))
# by time: ONE 1; TWO, THREE 2; LONE, FOUR 3; FAR 4; NEAR 5
TURNS = (ONE, TWO, THREE, LONE, FOUR, FAR, NEAR)
TIMES = (1, 2, 2, 3, 3, 4, 5)

# what is no history whatever it is asked for
NO_HISTORIES = (
    None, True, False, 0, 1, "", "say", "1.1 0.0.0.0 say", ONE, list(ONE), (ONE[0],), [None], (None,), ((),), [[]], [()],
    [1, 2], (True,), ["say"], ("",), [ONE[:3]], [list(ONE)], [ONE + (1,)], ((ONE,),), [(ONE, TWO)], [ONE, None], [ONE, ONE[:2]],
    (ONE, TWO, [THREE]), [(1, 1, [0, 0, 0, 0], SAY)], [(1, 1, NOUGHT, ["say"])], [(True, 1, NOUGHT, SAY)], [(5, 1, NOUGHT, SAY)],
    [(1, 0, (-1, 0, 0, 0), SAY)], [(1, 1, (1, 0, 0, 0), SAY)], [(1, 2, NOUGHT, SAY)],
    # not closed
    (TWO,), [(1, 2, (1, 0, 0, 0), SAY)], [(1, BIG, (BIG - 1, 0, 0, 0), SAY)], [(1, 1, (0, BIG, 0, 0), SAY)],
    (ONE, FOUR), (ONE, TWO, FAR), [(1, 1, (0, 1, 0, 0), SAY), (2, 1, (1, 0, 0, 0), SAY)],
    # twice
    (ONE, ONE), [ONE, TWO, TWO], [ONE, (1, 1, NOUGHT, SAY)], [(2, 1, NOUGHT, SAY), (2, 1, NOUGHT, SAY)],
    # a deed that does not fit
    [(1, 1, NOUGHT, ("drop", (1, 1)))], [(2, 1, NOUGHT, ("settle",))], [ONE, (2, 1, NOUGHT, ("erase", ((1, 1, 0),)))],
    [ONE, (2, 1, NOUGHT, ("write", ROOT, (1, 1, 0), (1, 1, 1), "b"))],
)


def clocks_within(clock):
    return itertools.product(*[range(many + 1) for many in clock])


class Histories(unittest.TestCase):
    def assert_no_history(self, value):
        self.assertIs(is_history(value), False, value)
        with self.assertRaises(InvalidHistory) as caught:
            history_of(value)
        self.assertIs(caught.exception.value, value)


class IsHistory(Histories):
    def test_the_empty_one(self):
        for value in ((), []):
            self.assertIs(is_history(value), True)
            self.assertEqual(history_of(value), ())
            self.assertEqual(clock_of(value), NOUGHT)
            self.assertEqual(part(value, NOUGHT), ())
            self.assertEqual(united(value, value), ())

    def test_lists_and_tuples_in_any_order(self):
        for deeds in itertools.islice(itertools.permutations(TURNS), 0, 5040, 7):
            for value in (deeds, list(deeds)):
                self.assertIs(is_history(value), True)
                self.assertIs(is_history(value=value), True)
                told = history_of(value)
                self.assertEqual(told, TURNS)
                self.assertIsInstance(told, tuple)
                self.assertEqual(history_of(deeds=value), TURNS)

    def test_no_histories(self):
        for value in NO_HISTORIES:
            with self.subTest(value=value):
                self.assert_no_history(value)

    def test_any_value(self):
        for value in ANYTHING:
            self.assertIs(is_history(value), value in ((), []), value)
            self.assertIs(is_history([value]), False)
            self.assertIs(is_history((ONE, value)), False)
        for value in wrong_acts("write") + wrong_acts("erase") + wrong_acts("undo"):
            self.assertIs(is_history([(1, 1, NOUGHT, value)]), False)

    def test_deep_and_long_values(self):
        for seed in ((), [], ONE, None, "say"):
            for shell in (lambda x: (x,), lambda x: [x], lambda x: (x, x), lambda x: [ONE, x]):
                value = shell(seed)
                for _ in range(7):
                    value = shell(value)
                self.assertIs(is_history(value), False)
        value = ONE
        for _ in range(26):
            value = [value]
        self.assertIs(is_history(value), False)
        says = [(1, k, (k - 1, 0, 0, 0), SAY) for k in range(1, 280)]
        self.assertIs(is_history(says), True)
        self.assertIs(is_history(says[::-1]), True)
        self.assertIs(is_history(says + says[:1]), False)
        self.assertIs(is_history((1,) * 2000), False)

    def test_a_deed_taken_out(self):
        for at, deed in enumerate(TURNS):
            rest = TURNS[:at] + TURNS[at + 1:]
            with self.subTest(deed=deed):
                # only LONE and NEAR are in nobody's past
                self.assertIs(is_history(rest), deed in (LONE, NEAR))

    def test_a_deed_told_twice(self):
        for deed in TURNS:
            for at in range(len(TURNS) + 1):
                self.assert_no_history(TURNS[:at] + (deed,) + TURNS[at:])

    def test_a_seen_that_counts_too_much_or_too_little(self):
        for at, (hand, number, seen, act) in enumerate(TURNS):
            for other in range(4):
                for more in (-1, 1, 2, BIG):
                    if other == hand - 1 or seen[other] + more < 0:
                        continue
                    clock = seen[:other] + (seen[other] + more,) + seen[other + 1:]
                    value = TURNS[:at] + ((hand, number, clock, act),) + TURNS[at + 1:]
                    self.assertIs(is_history(value), model.is_history(value), value)
        # FAR counts less than the deed ahead of it of the same hand, so it is not closed
        self.assert_no_history((ONE, TWO, FOUR, (4, 2, (1, 0, 0, 1), SAY)))
        # NEAR counts FAR, but not TWO, which FAR has seen
        self.assert_no_history((ONE, TWO, THREE, FOUR, FAR, (1, 2, (1, 0, 1, 2), SAY)))

    def test_histories_by_dice(self):
        dice = random.Random(8)
        for most in (1, 3, 8, 14, 20):
            for _ in range(8):
                history = random_history(dice, most)
                self.assertIs(is_history(history), True)
                self.assertIs(is_history(list(history)), True)
                for _ in range(8):
                    value = spoilt(dice, history)
                    self.assertIs(is_history(value), model.is_history(value), value)

    def test_forty_deeds(self):
        for seed in range(3):
            history = random_history(random.Random(seed), 40)
            self.assertEqual(history_of(history), tuple(Model(history).turns()))

    def test_arguments_are_not_changed(self):
        for value in (list(TURNS[::-1]), [TWO, ONE, ONE], [None, [ONE]]):
            before = copy.deepcopy(value)
            is_history(value)
            if is_history(value):
                history_of(value)
                part(value, (1, 1, 0, 0))
                united(value, value[::-1])
                fits(value, (1, 3, clock_of(value), SAY))
            self.assertEqual(value, before)


class TimesAndPasts(Histories):
    def test_times_of_the_example(self):
        for deed, time in zip(TURNS, TIMES):
            self.assertEqual(time_of(TURNS[::-1], deed[:2]), time)
            self.assertEqual(time_of(history=TURNS, deed_id=deed[:2]), time)

    def test_turn_is_by_time_then_by_hand(self):
        # four and three at time 1, one and two at time 2
        deeds = [(4, 1, NOUGHT, SAY), (3, 1, NOUGHT, SAY), (1, 1, (0, 0, 0, 1), SAY), (2, 1, (0, 0, 1, 0), SAY)]
        turns = (deeds[1], deeds[0], deeds[2], deeds[3])
        for mixed in itertools.permutations(deeds):
            self.assertEqual(history_of(mixed), turns)

    def test_the_greatest_time_of_the_past_and_not_the_number_of_deeds(self):
        deeds = [(1, 1, NOUGHT, SAY), (2, 1, NOUGHT, SAY), (3, 1, NOUGHT, SAY), (4, 1, (1, 1, 1, 0), SAY), (1, 2, (1, 0, 0, 0), SAY),
                 (1, 3, (2, 0, 0, 0), SAY), (2, 2, (3, 1, 0, 0), SAY)]
        self.assertEqual([time_of(deeds, deed[:2]) for deed in deeds], [1, 1, 1, 2, 2, 3, 4])

    def test_pasts_of_the_example(self):
        self.assertEqual(past_of(TURNS, (1, 1)), ())
        self.assertEqual(past_of(TURNS, (4, 1)), (ONE, TWO))
        self.assertEqual(past_of(TURNS[::-1], (4, 2)), (ONE, TWO, FOUR))
        self.assertEqual(past_of(history=list(TURNS), deed_id=(1, 2)), (ONE, TWO, THREE, FOUR, FAR))
        self.assertEqual(past_of(TURNS, (2, 2)), (ONE, TWO))

    def test_ids_that_are_not_there(self):
        for deed_id in ((1, 3), (2, 3), (3, 2), (4, 3), (0, 0), (5, 1), (1, 0), (1, -1), (-1, 1), (0, 1), (1, BIG), (True, 1),
                        (1, True), [1, 1], None, 1, (1, 1, 0), ONE):
            for ask in (time_of, past_of):
                with self.subTest(ask=ask, deed_id=deed_id):
                    with self.assertRaises(Undefined) as caught:
                        ask(TURNS, deed_id)
                    self.assertEqual(caught.exception.what, "deed")
                    self.assertRaises(Undefined, ask, (), deed_id)

    def test_by_dice(self):
        dice = random.Random(81)
        for _ in range(25):
            history = random_history(dice, dice.randint(1, 24))
            plain = Model(history)
            self.assertEqual(clock_of(history), plain.clock())
            self.assertEqual(history_of(history), tuple(plain.turns()))
            for deed in history:
                self.assertEqual(time_of(history, deed[:2]), plain.time(deed))
                past = past_of(history, deed[:2])
                self.assertEqual(past, tuple(plain.part(deed[2]).turns()))
                self.assertIs(is_history(past), True)
                self.assertEqual(clock_of(past), deed[2])


class CutsAndParts(Histories):
    def test_cuts_of_the_example(self):
        cuts = {clock for clock in clocks_within((2, 2, 1, 2)) if is_cut(TURNS, clock)}
        self.assertEqual(cuts, {
            (0, 0, 0, 0), (1, 0, 0, 0), (1, 1, 0, 0), (1, 0, 1, 0), (1, 1, 1, 0), (1, 2, 0, 0), (1, 2, 1, 0), (1, 1, 0, 1),
            (1, 1, 1, 1), (1, 2, 0, 1), (1, 2, 1, 1), (1, 1, 0, 2), (1, 1, 1, 2), (1, 2, 0, 2), (1, 2, 1, 2), (2, 1, 1, 2),
            (2, 2, 1, 2)})

    def test_parts_of_the_example(self):
        self.assertEqual(part(TURNS, NOUGHT), ())
        self.assertEqual(part(TURNS[::-1], (1, 2, 0, 1)), (ONE, TWO, LONE, FOUR))
        self.assertEqual(part(history=list(TURNS), clock=(2, 2, 1, 2)), TURNS)
        self.assertEqual(part(TURNS, (2, 1, 1, 2)), (ONE, TWO, THREE, FOUR, FAR, NEAR))

    def test_other_values_as_clocks(self):
        for value in ANYTHING + ((3, 2, 1, 2), (2, 2, 1, 3), (2, 2, 2, 2), (BIG,) * 4, (0, 1, 0, 0), [0, 0, 0, 0], [1, 0, 0, 0],
                                 (True, 0, 0, 0), (1, False, 0, 0), (1, 0, 0), (1, 0, 0, 0, 0), (1, -1, 0, 0), ("1", 0, 0, 0)):
            if value == (0, 0, 0, 0):
                continue
            with self.subTest(value=value):
                self.assertIs(is_cut(TURNS, value), False)
                self.assertIs(is_cut(history=TURNS, clock=value), False)
                with self.assertRaises(InvalidClock) as caught:
                    part(TURNS, value)
                self.assertIs(caught.exception.value, value)

    def test_by_dice(self):
        dice = random.Random(82)
        for _ in range(15):
            history = random_history(dice, dice.randint(1, 12))
            plain = Model(history)
            for clock in itertools.islice(clocks_within(clock_of(history)), 400):
                cut = plain.is_cut(clock)
                self.assertIs(is_cut(history, clock), cut)
                if cut:
                    told = part(history, clock)
                    self.assertEqual(told, tuple(plain.part(clock).turns()))
                    self.assertIs(is_history(told), True)
                else:
                    self.assertRaises(InvalidClock, part, history, clock)

    def test_a_part_has_the_times_of_the_whole(self):
        for clock in clocks_within((2, 2, 1, 2)):
            if is_cut(TURNS, clock):
                for deed in part(TURNS, clock):
                    self.assertEqual(time_of(part(TURNS, clock), deed[:2]), time_of(TURNS, deed[:2]))


class United(Histories):
    def test_two_parts_both_ways(self):
        clocks = [clock for clock in clocks_within((2, 2, 1, 2)) if is_cut(TURNS, clock)]
        for a, b in itertools.product(clocks, repeat=2):
            one, other = part(TURNS, a), part(TURNS, b)
            whole = tuple(deed for deed in TURNS if deed in one or deed in other)
            self.assertEqual(united(one[::-1], list(other)), whole)
            self.assertEqual(united(other, one), whole)
            self.assertEqual(united(history=one, other=other), whole)

    def test_by_dice(self):
        dice = random.Random(83)
        for _ in range(40):
            history = random_history(dice, dice.randint(2, 24))
            plain = Model(history)
            one, other = [plain.part(dice.choice(history)[2]).turns() for _ in range(2)]
            dice.shuffle(one)
            dice.shuffle(other)
            whole = united(one, other)
            self.assertEqual(whole, united(other, one))
            self.assertEqual(set(whole), set(one) | set(other))
            self.assertEqual(whole, history_of(whole))

    def test_unlike_deeds_of_one_id(self):
        say, block = (2, 1, (1, 0, 0, 0), SAY), (2, 1, NOUGHT, ("block", ROOT, None))
        for other in (say, block):
            with self.assertRaises(Unlike) as caught:
                united(TURNS, [ONE, other])
            self.assertEqual(caught.exception.deed, other)
            with self.assertRaises(Unlike) as caught:
                united([other, ONE], TURNS)
            self.assertEqual(caught.exception.deed, TWO)

    def test_the_first_unlike_one_by_turn_in_other(self):
        # (3, 1) is at time 2 in TURNS and at time 1 in other; (2, 1) at time 1 there
        other = [(1, 1, NOUGHT, ("write", ROOT, None, None, "ac")), (4, 1, (1, 0, 0, 0), SAY), (3, 1, NOUGHT, SAY), (2, 1, NOUGHT, SAY)]
        for mixed in itertools.permutations(other):
            with self.assertRaises(Unlike) as caught:
                united(TURNS, mixed)
            self.assertEqual(caught.exception.deed, (2, 1, NOUGHT, SAY))
            with self.assertRaises(Unlike) as caught:
                united(mixed, TURNS)
            self.assertEqual(caught.exception.deed, TWO)
        # a deed behind the first one may count an unlike one
        other = [ONE, (2, 1, (1, 0, 0, 0), SAY), (4, 1, (1, 1, 0, 0), SAY), (3, 1, NOUGHT, SAY)]
        with self.assertRaises(Unlike) as caught:
            united(TURNS, other)
        self.assertEqual(caught.exception.deed, other[3])

    def test_no_histories(self):
        bad, worse = [TWO], [None]
        for history, other, told in ((bad, worse, bad), (bad, TURNS, bad), (TURNS, worse, worse), (bad, [(2, 1, NOUGHT, SAY)], bad),
                                     ([(2, 1, NOUGHT, SAY)], bad, bad)):
            with self.assertRaises(InvalidHistory) as caught:
                united(history, other)
            self.assertIs(caught.exception.value, told)


class AheadOfAllElse(Histories):
    def test_invalid_history_first(self):
        calls = {
            clock_of: (), time_of: ((9, 9),), past_of: ((9, 9),), is_cut: (None,), part: (None,), united: ([None],),
            fits: ((1, 9, (8, 0, 0, 0), ("drop", ROOT)),),
        }
        for ask, others in calls.items():
            for value in NO_HISTORIES:
                with self.assertRaises(InvalidHistory) as caught:
                    ask(value, *others)
                self.assertIs(caught.exception.value, value)


class Interface(unittest.TestCase):
    def test_defined_in_its_module(self):
        for name in ("is_history", "history_of", "clock_of", "time_of", "past_of", "is_cut", "part", "united", "fits"):
            self.assertEqual(getattr(histories, name).__module__, "quillmoot.histories")

    def test_the_table_of_the_tests_makes_histories(self):
        table = Table()
        table.write(1, ROOT, 0, "ab")
        table.learn(2, 1)
        table.write(2, ROOT, 1, "c")
        self.assertIs(is_history(table.history()), True)
        self.assertIs(model.is_history(table.history()), True)


if __name__ == "__main__":
    unittest.main()
