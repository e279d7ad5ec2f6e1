"""Promise [30]: chains and seals."""

import random
import unittest

from quillmoot import seals
from quillmoot.deedtext import deed_text
from quillmoot.errors import InvalidHistory, InvalidNumber
from quillmoot.histories import history_of
from quillmoot.seals import asked_places, chain_of, first_apart, seal_of
from tests.makers import NOUGHT, Table, random_history

ROOT = (0, 0)


def plain_chain(history, hand):
    total, chain = 7 * hand, []
    for deed in sorted(deed for deed in history if deed[0] == hand):
        for sign in deed_text(deed).encode("ascii"):
            total = (total * 263 + sign) % 1000003
        chain.append(total)
    return tuple(chain)


class Chains(unittest.TestCase):
    def test_without_deeds(self):
        for hand in (1, 2, 3, 4):
            self.assertEqual(chain_of((), hand), ())
        self.assertEqual(seal_of(()), (7, 14, 21, 28))

    def test_told_by_hand(self):
        # "1.1 0.0.0.0 say", and then "1.2 1.0.0.0 settle"
        one = 7
        for sign in "1.1 0.0.0.0 say":
            one = (one * 263 + ord(sign)) % 1000003
        two = one
        for sign in "1.2 1.0.0.0 settle":
            two = (two * 263 + ord(sign)) % 1000003
        history = ((1, 2, (1, 0, 0, 0), ("settle",)), (1, 1, NOUGHT, ("say",)))
        self.assertEqual(chain_of(history, 1), (one, two))
        self.assertEqual(chain_of(history=list(history), hand=1), (one, two))
        self.assertEqual(seal_of(history=history), (two, 14, 21, 28))
        # worked out once and written down, so that it stays
        self.assertEqual((one, two), (538008, 740850))

    def test_by_dice(self):
        dice = random.Random(30)
        for _ in range(40):
            history = random_history(dice, dice.randint(1, 20))
            for hand in (1, 2, 3, 4):
                chain = chain_of(history, hand)
                self.assertEqual(chain, plain_chain(history, hand))
                self.assertEqual(chain_of(history_of(history), hand), chain)
                self.assertEqual(seal_of(history)[hand - 1], (chain or (7 * hand,))[-1])

    def test_other_hands_do_not_matter(self):
        table = Table()
        table.write(1, ROOT, 0, "ab")
        before = chain_of(table.history(), 1)
        table.write(2, ROOT, 0, "cd")
        self.assertEqual(chain_of(table.history(), 1), before)
        table.do(1, "say")
        self.assertEqual(chain_of(table.history(), 1)[:1], before)

    def test_no_hands(self):
        for hand in (0, 5, -1, 10 ** 9):
            with self.assertRaises(InvalidNumber) as caught:
                chain_of((), hand)
            self.assertEqual(caught.exception.value, hand)

    def test_no_histories(self):
        for value in (None, [None], ((2, 1, NOUGHT, ("settle",)),)):
            for call, others in ((chain_of, (9,)), (seal_of, ())):
                with self.assertRaises(InvalidHistory) as caught:
                    call(value, *others)
                self.assertIs(caught.exception.value, value)

    def test_defined_in_its_module(self):
        for name in ("chain_of", "seal_of", "first_apart", "asked_places"):
            self.assertEqual(getattr(seals, name).__module__, "quillmoot.seals")


class Apart(unittest.TestCase):
    def test_equal_chains(self):
        for chain in ((), (5,), (5, 6, 7), [5, 6]):
            self.assertIsNone(first_apart(chain, chain))
            self.assertIsNone(first_apart(chain=list(chain), other=tuple(chain)))

    def test_the_first_place(self):
        self.assertEqual(first_apart((5, 6, 7), (4, 6, 7)), 0)
        self.assertEqual(first_apart((5, 6, 7), (5, 6, 8)), 2)
        self.assertEqual(first_apart([5, 6, 7, 8], (5, 1, 7, 2)), 1)

    def test_unlike_lengths(self):
        self.assertIsNone(first_apart((), (1, 2)))
        self.assertIsNone(first_apart((1, 2), (1, 2, 3)))
        self.assertIsNone(first_apart((1, 2, 3), (1,)))
        self.assertEqual(first_apart((1, 2, 3), (1, 3)), 1)
        self.assertEqual(first_apart((9,), (1, 3)), 0)


class Asked(unittest.TestCase):
    def test_empty_ones(self):
        self.assertEqual(asked_places((), ()), ())
        self.assertEqual(asked_places(chain=(), other=[1, 2]), ())

    def test_by_halving(self):
        chain = tuple(range(8))
        self.assertEqual(asked_places(chain, chain), (4, 6, 7))
        self.assertEqual(asked_places(chain, (9,) * 8), (4, 2, 1, 0))
        self.assertEqual(asked_places(chain, chain[:7] + (9,)), (4, 6, 7))
        self.assertEqual(asked_places(chain, chain[:5] + (9, 9, 9)), (4, 6, 5))
        self.assertEqual(asked_places(list(chain), chain[:3]), (1, 2))
        self.assertEqual(asked_places((1,), (1,)), (0,))
        self.assertEqual(asked_places((1,), (2, 3)), (0,))

    def test_only_the_places_asked_matter(self):
        # alike again behind a place apart: it is halving, not a look at each
        self.assertEqual(asked_places((0, 1, 2, 3), (9, 1, 2, 3)), (2, 3))

    def test_it_finds_where_a_chain_is_spoilt_from_on(self):
        dice = random.Random(31)
        for _ in range(200):
            chain = tuple(dice.randrange(10 ** 6) for _ in range(dice.randint(0, 30)))
            at = dice.randint(0, len(chain))
            other = chain[:at] + tuple(number + 1 for number in chain[at:])
            other = other[:dice.randint(0, len(other))]
            asked = asked_places(chain, other)
            low, high = 0, min(len(chain), len(other))
            for place in asked:
                self.assertEqual(place, (low + high) // 2)
                low, high = (place + 1, high) if chain[place] == other[place] else (low, place)
            self.assertEqual(low, high)
            found = first_apart(chain, other)
            self.assertEqual(low, min(len(chain), len(other)) if found is None else found)


if __name__ == "__main__":
    unittest.main()
