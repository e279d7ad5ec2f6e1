"""Promise [27]: the base of a history, and the rest."""

import random
import unittest

from quillmoot import snapshots
from quillmoot.errors import InvalidHistory
from quillmoot.histories import clock_of, history_of, is_cut, part, time_of
from quillmoot.rights import counts
from quillmoot.snapshots import base_clock, rest_of
from tests.kept_makers import KEPT, rulings, stray
from tests.makers import NOUGHT, Table, random_going, random_history, random_settling, random_stray
from tests.model import Model

ROOT = (0, 0)
HANDS = (1, 2, 3, 4)


class Bases(unittest.TestCase):
    def setUp(self):
        """One has typed, two has taken some of it away, and all know it."""
        self.table = Table()
        self.table.write(1, ROOT, 0, "abc")
        self.table.meet()
        self.table.do(2, "erase", ((1, 1, 1),))
        self.table.meet()

    def assert_base(self, *ids):
        """The base has these deeds."""
        self.assert_base_of(self.table.history(), *ids)

    def assert_base_of(self, history, *ids):
        clock = tuple(len([own for own in ids if own[0] == hand]) for hand in HANDS)
        rest = tuple(deed for deed in history_of(history) if deed[:2] not in ids)
        self.assertEqual([deed[:2] for deed in history_of(history)[:len(ids)]], list(ids))
        for order in (history, list(history)[::-1]):
            self.assertEqual(base_clock(order), clock)
            self.assertEqual(rest_of(order), rest)
        self.assertEqual(base_clock(history=history), clock)
        self.assertEqual(rest_of(history=history), rest)


class Which(Bases):
    def test_no_deeds(self):
        self.assert_base_of(())

    def test_no_settle(self):
        self.table.round()
        self.table.round()
        self.assert_base()

    def test_a_hand_without_deeds(self):
        self.table.do(1, "settle")
        for _ in range(3):
            self.table.round(1, 2, 4)
        self.assert_base()
        self.table.do(3, "say")
        self.assert_base((1, 1), (2, 1))

    def test_hands_that_have_not_heard_of_the_settle(self):
        self.table.do(4, "say")
        self.table.do(1, "settle")
        self.table.meet()
        for hand in (1, 2, 3):
            self.table.do(hand, "say")
            self.assert_base()
        # the last one has a deed by now, and yet none behind the settle
        self.table.do(4, "say")
        self.assert_base((1, 1), (2, 1))

    def test_the_owner_has_heard_of_it_when_it_does_something_more(self):
        self.table.do(1, "settle")
        for hand in (2, 3, 4):
            self.table.learn(hand, 1)
            self.table.do(hand, "say")
        self.assert_base()
        self.table.do(1, "say")
        self.assert_base((1, 1), (2, 1))

    def test_the_settle_itself_is_settled_by_another_one(self):
        self.table.do(1, "settle")
        self.table.round()
        self.assert_base((1, 1), (2, 1))
        self.table.do(1, "settle")
        self.table.round()
        self.assert_base((1, 1), (2, 1), (1, 2), (1, 3), (2, 2), (3, 1), (4, 1))

    def test_each_hand_may_know_another_settle(self):
        self.table.do(1, "settle")
        self.table.learn(2, 1)
        self.table.do(2, "say")
        self.table.do(1, "settle")
        self.table.learn(3, 1)
        self.table.do(3, "say")
        self.table.learn(4, 1, 3)
        self.table.do(4, "say")
        self.table.do(1, "say")
        # two knows the first one alone
        self.assert_base((1, 1), (2, 1))
        self.table.learn(2, 1)
        self.table.do(2, "say")
        self.assert_base((1, 1), (2, 1), (1, 2))

    def test_what_the_settle_did_not_know(self):
        self.table.do(3, "say")
        self.table.do(1, "settle")
        self.table.round()
        self.assert_base((1, 1), (2, 1))

    def test_what_the_settle_did_not_know_ahead_of_what_it_knew(self):
        # four said something at first, of which nobody had heard
        table = stray((1, "say"), (2, "say"), (3, "say"))
        self.assertEqual(base_clock(table.history()), (1, 0, 0, 0))
        self.assertEqual(rest_of(table.history())[:3], ((4, 1, NOUGHT, ("say",)), (2, 1, (1, 0, 0, 0), ("say",)), (3, 1, (1, 1, 0, 0), ("say",))))
        # three at first, and then four, where the turns of one time go by the hand
        self.assertEqual(base_clock(stray((3, "say"), (2, "say")).history()), (0, 0, 1, 0))

    def test_told_by_hand(self):
        self.assertEqual([sum(base_clock(maker().history())) for maker in KEPT], [6, 6, 6, 3, 3, 1, 1, 2, 4])
        self.assertEqual(base_clock(rulings().history()), (1, 1, 1, 0))


class Promise(Bases):
    def greater_ones(self, seed, many):
        """Histories with a part of each."""
        dice = random.Random(seed)
        makers = (random_going, random_stray, random_settling)
        for k in range(many):
            history = tuple(makers[k % 3](dice, dice.randint(12, 24)).deeds)
            cuts = [deed[2] for deed in history] + [clock_of(history)]
            clock = tuple(map(max, zip(dice.choice(cuts), dice.choice(cuts))))
            self.assertTrue(is_cut(history, clock))
            yield part(history, clock), history

    def test_ahead_in_each_greater_history_and_counts_as_it_does(self):
        many = 0
        for lesser, greater in self.greater_ones(27, 150):
            base = base_clock(lesser)
            many += base != NOUGHT
            self.assertTrue(is_cut(lesser, base))
            first = part(lesser, base)
            self.assertEqual(first + rest_of(lesser), lesser)
            # the greater one begins with the same deeds, and its base has them, too
            self.assertEqual(history_of(greater)[:len(first)], first)
            self.assertTrue(all(a <= b for a, b in zip(base, base_clock(greater))))
            for deed in first:
                self.assertIs(counts(greater, deed[:2]), counts(lesser, deed[:2]))
                self.assertEqual(time_of(greater, deed[:2]), time_of(lesser, deed[:2]))
        self.assertGreater(many, 50)

    def test_by_dice(self):
        dice = random.Random(271)
        many = 0
        for _ in range(200):
            history = random_history(dice, dice.randint(4, 24))
            plain = Model(history)
            base = plain.base()
            many += bool(base)
            self.assertEqual(base_clock(history), Model(base).clock())
            self.assertEqual(rest_of(history), tuple(deed for deed in plain.turns() if deed not in base))
        self.assertGreater(many, 30)


class Wrong(Bases):
    def test_no_histories(self):
        for value in (None, 1, [None], [(1, 2, (1, 0, 0, 0), ("say",))], ((2, 1, NOUGHT, ("settle",)),)):
            for call in (base_clock, rest_of, snapshots.snapshot):
                with self.assertRaises(InvalidHistory) as caught:
                    call(value)
                self.assertIs(caught.exception.value, value)

    def test_defined_in_its_module(self):
        for name in ("base_clock", "rest_of", "snapshot", "desk_of", "desk_snapshot", "kept_signs"):
            self.assertEqual(getattr(snapshots, name).__module__, "quillmoot.snapshots")


if __name__ == "__main__":
    unittest.main()
