"""Promise [6], and [1], [2] and [4] where acts and deeds need them."""

import copy
import itertools
import random
import unittest

from quillmoot import deeds
from quillmoot.deeds import id_of, is_act, is_deed
from tests.deed_samples import ACTS, ANYTHING, BIG, PARTS, deed_of, right_act, right_acts, wrong_acts

SAY = ("say",)


class IsAct(unittest.TestCase):
    def test_the_acts_of_the_document(self):
        for act in (
            ("write", (0, 0), None, None, "ac"),
            ("write", (0, 0), (1, 1, 0), (1, 1, 1), "b"),
            ("write", (3, 2), None, (2, 4, 7), " a b c d"),
            ("erase", ((1, 1, 0), (1, 1, 1), (2, 1, 0))),
            ("mark", (1, 1, 0), (2, 1, 3), "bold", "on"),
            ("mark", (1, 1, 0), (1, 1, 0), "bold", None),
            ("note", (2, 1, 3), (1, 1, 0), "is it so"),
            ("block", (0, 0), None),
            ("block", (1, 2), (4, 1)),
            ("move", (1, 2), (0, 0), None),
            ("move", (1, 2), (2, 3), (1, 2)),
            ("drop", (1, 2)),
            ("undo", 1),
            ("redo", 12),
            ("bar", 2),
            ("let", 4),
            ("settle",),
            ("say",),
        ):
            with self.subTest(act=act):
                self.assertIs(is_act(act), True)
                self.assertIs(is_act(value=act), True)

    def test_there_are_thirteen_words(self):
        self.assertEqual(len(ACTS), 13)
        for word in ACTS:
            self.assertIs(is_act(right_act(word)), True)

    def test_each_right_value_of_each_part(self):
        for word in ACTS:
            for act in right_acts(word):
                with self.subTest(act=act):
                    self.assertIs(is_act(act), True)

    def test_each_wrong_value_of_each_part(self):
        for word in ACTS:
            for act in wrong_acts(word):
                with self.subTest(act=act):
                    self.assertIs(is_act(act), False)

    def test_too_many_or_too_few_parts_for_another_word(self):
        for one, other in itertools.permutations(ACTS, 2):
            if len(ACTS[one]) != len(ACTS[other]):
                with self.subTest(one=one, other=other):
                    self.assertIs(is_act((other,) + right_act(one)[1:]), False)

    def test_the_parts_of_one_word_for_another(self):
        for act in (
            ("write", (1, 1, 0), (1, 1, 1), "bold", "on"),
            ("mark", (0, 0), None, None, "ac"),
            ("erase", (1, 1)),
            ("erase", 1),
            ("erase", (1, 1, 0), (1, 1, 1)),
            ("drop", ((1, 1, 0),)),
            ("drop", 1),
            ("drop", None),
            ("undo", (1, 1)),
            ("redo", ((1, 1, 0),)),
            ("bar", (2, 1)),
            ("let", (2, 1)),
            ("bar", 1),
            ("let", 1),
            ("note", (0, 0), None, "a"),
            ("note", (1, 1), (1, 1), None),
            ("move", (1, 1, 0), (1, 1, 1), "a"),
            ("block", None, (0, 0)),
            ("block", (1, 1, 0), (1, 1, 1)),
        ):
            with self.subTest(act=act):
                self.assertIs(is_act(act), False)

    def test_forms_alone(self):
        # what only a history can tell is no matter of the form
        for act in (
            ("write", (0, 0), (1, 1, 0), (1, 1, 0), "a"),
            ("write", (4, 900000), (3, 2, 999), (1, 8, 77), "a"),
            ("mark", (4, 9, 9), (1, 1, 0), "a", "a"),
            ("move", (0, 0), (0, 0), (0, 0)),
            ("block", (0, 0), (0, 0)),
            ("drop", (0, 0)),
            ("undo", 999999),
            ("redo", BIG),
        ):
            with self.subTest(act=act):
                self.assertIs(is_act(act), True)

    def test_anything(self):
        for value in ANYTHING:
            if value not in (SAY, ("settle",)):
                with self.subTest(value=value):
                    self.assertIs(is_act(value), False)

    def test_an_erase_of_each_length(self):
        for many in range(0, 12):
            act = ("erase", tuple((1, 1, k) for k in range(many)))
            self.assertIs(is_act(act), 1 <= many <= 8)

    def test_texts_and_words_of_each_length(self):
        for many in range(0, 12):
            right = 1 <= many <= 8
            self.assertIs(is_act(("write", (0, 0), None, None, "a" * many)), right)
            self.assertIs(is_act(("note", (1, 1, 0), (1, 1, 0), " " * many)), right)
            self.assertIs(is_act(("mark", (1, 1, 0), (1, 1, 0), "z" * many, None)), right)
            self.assertIs(is_act(("mark", (1, 1, 0), (1, 1, 0), "a", "z" * many)), right)

    def test_each_ascii_sign(self):
        for sign in map(chr, range(0, 128)):
            letter = sign in "abcdefghijklmnopqrstuvwxyz"
            self.assertIs(is_act(("write", (0, 0), None, None, sign)), letter or sign == " ")
            self.assertIs(is_act(("note", (1, 1, 0), (1, 1, 0), "a" + sign)), letter or sign == " ")
            self.assertIs(is_act(("mark", (1, 1, 0), (1, 1, 0), "a" + sign, "a")), letter)
            self.assertIs(is_act(("mark", (1, 1, 0), (1, 1, 0), "a", sign + "a")), letter)

    def test_each_hand(self):
        for hand in range(-2, 8):
            self.assertIs(is_act(("bar", hand)), hand in (2, 3, 4))
            self.assertIs(is_act(("let", hand)), hand in (2, 3, 4))
            self.assertIs(is_act(("drop", (hand, 1))), hand in (1, 2, 3, 4))
            self.assertIs(is_act(("drop", (hand, 0))), hand == 0)
            self.assertIs(is_act(("erase", ((hand, 1, 0),))), hand in (1, 2, 3, 4))


class IsDeed(unittest.TestCase):
    def test_a_deed_of_each_word(self):
        for word in ACTS:
            for hand in (1, 2, 3, 4):
                for number in (1, 2, 9, 40, BIG):
                    deed = deed_of(right_act(word), hand, number)
                    with self.subTest(deed=deed):
                        self.assertIs(is_deed(deed), True)
                        self.assertIs(is_deed(value=deed), True)

    def test_the_deeds_of_the_document(self):
        self.assertIs(is_deed((1, 1, (0, 0, 0, 0), ("write", (0, 0), None, None, "ac"))), True)
        self.assertIs(is_deed((1, 2, (1, 0, 0, 0), ("write", (0, 0), (1, 1, 0), (1, 1, 1), "b"))), True)
        self.assertIs(is_deed((2, 1, (1, 0, 0, 0), ("write", (0, 0), (1, 1, 0), (1, 1, 1), "xy"))), True)

    def test_each_right_act(self):
        for word in ACTS:
            for act in right_acts(word):
                with self.subTest(act=act):
                    self.assertIs(is_deed(deed_of(act)), True)

    def test_each_wrong_act(self):
        for word in ACTS:
            for act in wrong_acts(word):
                with self.subTest(act=act):
                    self.assertIs(is_deed(deed_of(act)), False)

    def test_anything_as_the_act(self):
        for value in ANYTHING:
            if value not in (SAY, ("settle",)):
                with self.subTest(value=value):
                    self.assertIs(is_deed(deed_of(value)), False)

    def test_anything_as_a_deed(self):
        for value in ANYTHING:
            with self.subTest(value=value):
                self.assertIs(is_deed(value), False)

    def test_wrong_hands(self):
        for hand in (0, 5, 6, -1, -4, BIG, True, False, None, "", "1", "a", (), (1,), [], [1], (1, 1)):
            for seen in ((0, 0, 0, 0), (2, 2, 2, 2)):
                with self.subTest(hand=hand, seen=seen):
                    self.assertIs(is_deed((hand, seen[0] + 1, seen, SAY)), False)

    def test_wrong_numbers(self):
        for number in (0, -1, -BIG, True, False, None, "", "1", "a", (), (1,), [], [1], (1, 1)):
            for seen in ((0, 0, 0, 0), (-1, -1, -1, -1), (-2, -2, -2, -2)):
                for hand in (1, 2, 3, 4):
                    with self.subTest(hand=hand, number=number, seen=seen):
                        self.assertIs(is_deed((hand, number, seen, SAY)), False)

    def test_wrong_clocks(self):
        for seen in (
            [0, 0, 0, 0], (), (0,), (0, 0, 0), (0, 0, 0, 0, 0), (0, -1, 0, 0), (0, 0, -1, 0), (0, 0, 0, -1),
            (False, 0, 0, 0), (0, False, 0, 0), (0, 0, 0, True), (0, None, 0, 0), (0, 0, "0", 0), (0, 0, 0, (0,)),
            (0, 0, 0, [0]), ((0, 0, 0, 0),), None, True, False, 0, 1, "", "0000", "0.0.0.0", [], [[]], ([0, 0, 0, 0],),
            ("0", "0", "0", "0"), (None, 0, 0, 0),
        ):
            with self.subTest(seen=seen):
                self.assertIs(is_deed((1, 1, seen, SAY)), False)

    def test_seen_of_the_hand_itself(self):
        for hand, number, own in itertools.product((1, 2, 3, 4), range(-1, 5), range(-1, 5)):
            seen = tuple(own if k == hand - 1 else 7 for k in range(4))
            right = number >= 1 and own == number - 1
            with self.subTest(hand=hand, number=number, seen=seen):
                self.assertIs(is_deed((hand, number, seen, SAY)), right)

    def test_seen_of_the_other_hands_is_free(self):
        for others in itertools.product((0, 1, 9, BIG), repeat=3):
            self.assertIs(is_deed((1, 3, (2,) + others, SAY)), True)
            self.assertIs(is_deed((4, 3, others + (2,), SAY)), True)

    def test_seen_of_another_hand_is_not_taken_for_it(self):
        self.assertIs(is_deed((1, 3, (0, 2, 2, 2), SAY)), False)
        self.assertIs(is_deed((2, 3, (2, 0, 2, 2), SAY)), False)
        self.assertIs(is_deed((3, 3, (2, 2, 0, 2), SAY)), False)
        self.assertIs(is_deed((4, 3, (2, 2, 2, 0), SAY)), False)

    def test_lists_and_numbers_of_parts(self):
        deed = deed_of(SAY)
        for value in (list(deed), deed[:3], deed[1:], deed + (None,), deed + (SAY,), (deed,), [deed], deed + deed,
                      deed[:2] + (list(deed[2]),) + deed[3:], deed[:3] + (list(SAY),), deed[::-1], deed[:2], deed[:1],
                      (deed[0], deed[1], deed[3], deed[2]), (deed[:2], deed[2], deed[3])):
            with self.subTest(value=value):
                self.assertIs(is_deed(value), False)

    def test_forms_alone(self):
        # only the owner may do these, and an undo is of an earlier deed, but the form is a deed's
        for act in (("settle",), ("bar", 3), ("let", 2), ("undo", 3), ("undo", 4), ("redo", 999999), ("drop", (0, 0)),
                    ("write", (2, 3), (2, 3, 0), (4, 90, 90), "a")):
            with self.subTest(act=act):
                self.assertIs(is_deed(deed_of(act, 2, 3)), True)
        self.assertIs(is_deed((1, BIG, (BIG - 1, BIG, 0, 0), SAY)), True)

    def test_an_act_is_no_deed(self):
        for word in ACTS:
            for act in right_acts(word):
                self.assertIs(is_deed(act), False)
            self.assertIs(is_act(deed_of(right_act(word))), False)


class AnyValue(unittest.TestCase):
    """No value whatever raises, and none is changed."""

    def made(self, dice, depth):
        leaves = (0, 1, 2, 4, 5, -1, BIG, True, False, None, "", "a", "ab", "Say", "\xe9") + tuple(ACTS)
        parts = tuple(value for kind in PARTS.values() for value in kind[0] + kind[1])
        if depth == 0 or dice.random() < 0.3:
            return dice.choice(leaves if dice.random() < 0.5 else parts)
        items = [self.made(dice, depth - 1) for _ in range(dice.randrange(6))]
        return items if dice.random() < 0.3 else tuple(items)

    def test_values_by_dice(self):
        dice = random.Random(20261119)
        for _ in range(4000):
            value = self.made(dice, 4)
            before = copy.deepcopy(value)
            for ask in (is_act, is_deed):
                told = ask(value)
                self.assertIn(told, (True, False))
                self.assertIsInstance(told, bool)
                self.assertIs(ask(value), told)
            self.assertEqual(repr(value), repr(before))

    def test_values_with_a_word_ahead(self):
        dice = random.Random(7)
        for _ in range(4000):
            word = dice.choice(tuple(ACTS))
            value = (word,) + tuple(self.made(dice, 2) for _ in range(len(ACTS[word])))
            self.assertIsInstance(is_act(value), bool)
            self.assertIs(is_deed(deed_of(value)), is_act(value))

    def test_thirty_within_one_another(self):
        for seed in ((), [], "say", ("say",), 0, None):
            for shell in (lambda x: (x,), lambda x: [x], lambda x: ("say", x), lambda x: ("erase", x), lambda x: (x, 1, x)[:2]):
                value = seed
                for _ in range(29):
                    value = shell(value)
                self.assertIs(is_act(value), False)
                self.assertIs(is_deed(value), False)
                self.assertIs(is_deed((1, 1, (0, 0, 0, 0), value)), False)
                self.assertIs(is_deed((value, value, value, value)), False)

    def test_two_thousand_values(self):
        for value in ((1,) * 2000, [1] * 2000, ("say",) * 2000, ("erase", ((1, 1, 0),) * 600), ("a" * 2000,),
                      ("erase", tuple((1, 1, k) for k in range(600)))):
            self.assertIs(is_act(value), False)
            self.assertIs(is_deed(value), False)

    def test_wrong_values_are_not_changed(self):
        for word in ACTS:
            for act in wrong_acts(word):
                before = copy.deepcopy(act)
                is_act(act)
                is_deed(deed_of(act))
                self.assertEqual(act, before)


class IdOf(unittest.TestCase):
    def test_hand_and_number(self):
        for word in ACTS:
            for hand in (1, 2, 3, 4):
                for number in (1, 2, 40, 999999, BIG):
                    deed = deed_of(right_act(word), hand, number)
                    self.assertEqual(id_of(deed), (hand, number))
                    self.assertEqual(id_of(deed=deed), (hand, number))
                    self.assertIsInstance(id_of(deed), tuple)


class Interface(unittest.TestCase):
    def test_defined_in_its_module(self):
        for name in ("is_act", "is_deed", "id_of"):
            self.assertEqual(getattr(deeds, name).__module__, "quillmoot.deeds")


if __name__ == "__main__":
    unittest.main()
