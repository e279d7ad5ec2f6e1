"""Promises [22] and [24]: what desks take, have waiting, lack and show."""

import random
import unittest

from quillmoot import desks
from quillmoot.clocks import is_clock
from quillmoot.desks import Desk
from quillmoot.documents import document
from quillmoot.errors import InvalidClock, InvalidDeed, Misfit, NoBlock, Unlike
from quillmoot.histories import clock_of, history_of, part
from quillmoot.rows import block_text
from tests.desk_makers import random_doing, spoilt_deed, told
from tests.desk_model import PlainDesk
from tests.makers import NOUGHT, Table, random_history

ROOT = (0, 0)
METHODS = """clock document text deeds take waiting lacking write erase mark note block move drop undo redo bar let settle
    say""".split()


def state_of(desk):
    """All that a desk tells."""
    clocks = (NOUGHT, (1, 0, 2, 0), (9, 9, 9, 9))
    return (desk.hand, desk.clock(), desk.document(), desk.deeds(), desk.waiting(),
            tuple(desk.lacking(clock) for clock in clocks), tuple(desk.text(page[0]) for page in desk.document()))


def three_writes():
    """Three deeds of hand 1 of which each builds on the one ahead, and one of hand 2 behind them."""
    return ((1, 1, NOUGHT, ("write", ROOT, None, None, "ab")),
            (1, 2, (1, 0, 0, 0), ("write", ROOT, (1, 1, 1), None, "cd")),
            (1, 3, (2, 0, 0, 0), ("erase", ((1, 1, 0),))),
            (2, 1, (3, 0, 0, 0), ("write", ROOT, (1, 2, 1), None, "e")))


class Anew(unittest.TestCase):
    def test_no_deeds_at_first(self):
        for hand in (1, 2, 3, 4):
            desk = Desk(hand)
            self.assertEqual(desk.hand, hand)
            self.assertEqual(desk.clock(), NOUGHT)
            self.assertEqual(desk.document(), ((ROOT, 0, (), ()),))
            self.assertEqual(desk.text(ROOT), "")
            self.assertEqual((desk.deeds(), desk.waiting(), desk.lacking(NOUGHT)), ((), (), ()))
        self.assertEqual(Desk(hand=3).hand, 3)

    def test_methods_stand_in_the_class_itself(self):
        self.assertEqual(Desk.__module__, "quillmoot.desks")
        for name in METHODS:
            self.assertIn(name, vars(Desk))
        self.assertEqual(desks.Desk, Desk)

    def test_the_example_of_the_document(self):
        one, two = Desk(1), Desk(2)
        first = one.write((0, 0), 0, "ac")
        self.assertEqual(two.take(first), ((1, 1),))
        left, right = one.write((0, 0), 1, "b"), two.write((0, 0), 1, "xy")
        self.assertEqual((one.take(right), two.take(left)), (((2, 1),), ((1, 2),)))
        self.assertEqual(one.text((0, 0)), two.text((0, 0)))
        self.assertEqual(one.text((0, 0)), "abxyc")

    def test_two_desks_share_nothing(self):
        one, two = Desk(1), Desk(1)
        one.write(ROOT, 0, "a")
        one.take((2, 2, (0, 1, 0, 0), ("say",)))
        self.assertEqual((two.clock(), two.waiting(), two.text(ROOT)), (NOUGHT, (), ""))


class Taking(unittest.TestCase):
    def test_in_sequence(self):
        desk = Desk(4)
        deeds = three_writes()
        self.assertEqual([desk.take(deed) for deed in deeds], [((1, 1),), ((1, 2),), ((1, 3),), ((2, 1),)])
        self.assertEqual(desk.text(ROOT), "bcde")
        self.assertEqual(desk.deeds(), deeds)
        self.assertEqual(desk.clock(), (3, 1, 0, 0))

    def test_a_deed_by_name(self):
        self.assertEqual(Desk(4).take(deed=three_writes()[0]), ((1, 1),))

    def test_once_more(self):
        desk = Desk(4)
        deeds = three_writes()
        for deed in deeds:
            desk.take(deed)
        before = state_of(desk)
        self.assertEqual([desk.take(deed) for deed in deeds], [()] * 4)
        self.assertEqual(state_of(desk), before)

    def test_deeds_that_wait_for_one_another(self):
        desk = Desk(4)
        one, two, three, four = three_writes()
        self.assertEqual(desk.take(four), ())
        self.assertEqual(desk.take(three), ())
        self.assertEqual(desk.waiting(), ((1, 3), (2, 1)))
        self.assertEqual(desk.take(three), ())
        self.assertEqual(desk.take(one), ((1, 1),))
        self.assertEqual(desk.waiting(), ((1, 3), (2, 1)))
        self.assertEqual(desk.text(ROOT), "ab")
        self.assertEqual(desk.take(two), ((1, 2), (1, 3), (2, 1)))
        self.assertEqual(desk.waiting(), ())
        self.assertEqual(desk.text(ROOT), "bcde")

    def test_those_that_waited_come_by_id(self):
        table = Table()
        first = table.do(1, "say")
        for hand in (4, 3, 2):
            table.learn(hand, 1)
            table.do(hand, "say")
        table.learn(2, 4)
        table.do(2, "say")
        deeds = {deed[:2]: deed for deed in table.history()}
        desk = Desk(1)
        for own in ((4, 1), (2, 2), (3, 1), (2, 1)):
            self.assertEqual(desk.take(deeds[own]), ())
        # the first by id, again and again: (2, 2) could not come ahead of (4, 1)
        self.assertEqual(desk.take(deeds[first]), ((1, 1), (2, 1), (3, 1), (4, 1), (2, 2)))

    def test_what_does_not_fit_raises(self):
        desk = Desk(4)
        desk.take(three_writes()[0])
        before = state_of(desk)
        for act in (("write", ROOT, None, None, "x"), ("erase", ((1, 1, 2),)), ("undo", 2), ("bar", 2), ("drop", ROOT), ("settle",)):
            deed = (2, 1, (1, 0, 0, 0), act)
            with self.assertRaises(Misfit) as caught:
                desk.take(deed)
            self.assertIs(caught.exception.deed, deed)
            self.assertEqual(state_of(desk), before)

    def test_a_seen_that_is_no_cut_does_not_fit(self):
        desk = Desk(4)
        for deed in three_writes():
            desk.take(deed)
        # hand 2 had seen three deeds of hand 1
        deed = (3, 1, (1, 1, 0, 0), ("say",))
        with self.assertRaises(Misfit) as caught:
            desk.take(deed)
        self.assertIs(caught.exception.deed, deed)

    def test_what_waits_and_does_not_fit_is_forgotten(self):
        desk = Desk(4)
        wrong = (2, 1, (1, 0, 0, 0), ("write", ROOT, None, None, "x"))
        behind = (2, 2, (1, 1, 0, 0), ("say",))
        good = (3, 1, (1, 0, 0, 0), ("say",))
        for deed in (wrong, behind, good):
            self.assertEqual(desk.take(deed), ())
        self.assertEqual(desk.take(three_writes()[0]), ((1, 1), (3, 1)))
        self.assertEqual(desk.waiting(), ((2, 2),))
        # as nothing came, a right one of this id can come still
        self.assertEqual(desk.take((2, 1, (1, 0, 0, 0), ("say",))), ((2, 1), (2, 2)))
        self.assertEqual(desk.waiting(), ())

    def test_what_is_forgotten_can_be_told_again(self):
        desk = Desk(4)
        wrong = (2, 1, (1, 0, 0, 0), ("settle",))
        desk.take(wrong)
        desk.take(three_writes()[0])
        with self.assertRaises(Misfit):
            desk.take(wrong)

    def test_no_deed(self):
        desk = Desk(4)
        desk.take(three_writes()[1])
        before = state_of(desk)
        for value in (None, 7, "say", (), [], (1, 1, NOUGHT), list(three_writes()[0]), (1, 2, NOUGHT, ("say",)), (5, 1, NOUGHT, ("say",)),
                      (True, 1, NOUGHT, ("say",)), (1, 1, list(NOUGHT), ("say",)), (1, 1, NOUGHT, ["say"]), (1, 1, NOUGHT, ("sing",))):
            with self.assertRaises(InvalidDeed) as caught:
                desk.take(value)
            self.assertIs(caught.exception.value, value)
            self.assertEqual(state_of(desk), before)

    def test_unlike_deeds(self):
        desk = Desk(4)
        deeds = three_writes()
        desk.take(deeds[0])
        desk.take(deeds[2])
        before = state_of(desk)
        # the first is there, the other one waits; it matters not whether they fit or could come
        for deed in ((1, 1, NOUGHT, ("say",)), (1, 1, (0, 0, 0, 5), ("say",)), (1, 1, NOUGHT, ("drop", ROOT)),
                     (1, 3, (2, 0, 0, 0), ("say",)), (1, 3, (2, 0, 0, 7), ("say",))):
            with self.assertRaises(Unlike) as caught:
                desk.take(deed)
            self.assertIs(caught.exception.deed, deed)
            self.assertEqual(state_of(desk), before)

    def test_an_unlike_deed_that_waits_is_not_counted(self):
        desk = Desk(4)
        desk.take((1, 1, (0, 0, 0, 1), ("say",)))
        with self.assertRaises(Unlike):
            desk.take(three_writes()[0])
        self.assertEqual((desk.clock(), desk.waiting()), (NOUGHT, ((1, 1),)))
        desk.say()
        self.assertEqual((desk.clock(), desk.waiting()), ((1, 0, 0, 1), ()))

    def test_own_deeds_from_elsewhere(self):
        desk = Desk(1)
        deeds = three_writes()
        self.assertEqual(desk.take(deeds[1]), ())
        self.assertEqual(desk.take(deeds[0]), ((1, 1), (1, 2)))
        self.assertEqual(desk.erase(ROOT, 0, 1), deeds[2])
        self.assertEqual(desk.take(deeds[3]), ((2, 1),))

    def test_the_next_number_of_its_hand(self):
        desk = Desk(4)
        # its seen is within the clock but for its own hand
        self.assertEqual(desk.take((1, 2, (1, 0, 0, 0), ("say",))), ())
        self.assertEqual(desk.take((1, 1, NOUGHT, ("say",))), ((1, 1), (1, 2)))

    def test_far_greater_numbers_wait(self):
        desk = Desk(4)
        deed = (3, 999999, (999999, 0, 999998, 0), ("say",))
        self.assertEqual(desk.take(deed), ())
        self.assertEqual(desk.take(deed), ())
        self.assertEqual(desk.waiting(), ((3, 999999),))
        with self.assertRaises(Unlike):
            desk.take(deed[:3] + (("settle",),))


class Lacking(unittest.TestCase):
    def setUp(self):
        self.desk = Desk(3)
        for deed in three_writes():
            self.desk.take(deed)

    def test_what_a_clock_does_not_count(self):
        deeds = three_writes()
        self.assertEqual(self.desk.lacking(clock=NOUGHT), deeds)
        self.assertEqual(self.desk.lacking((1, 0, 0, 0)), deeds[1:])
        self.assertEqual(self.desk.lacking((0, 1, 0, 0)), deeds[:3])
        self.assertEqual(self.desk.lacking((2, 5, 0, 0)), deeds[2:3])
        self.assertEqual(self.desk.lacking((3, 1, 0, 0)), ())
        self.assertEqual(self.desk.lacking((10 ** 6, 10 ** 9, 0, 7)), ())

    def test_in_turn_and_not_what_waits(self):
        self.desk.say()
        self.desk.take((4, 1, (1, 0, 0, 0), ("say",)))
        self.desk.take((1, 5, (4, 0, 0, 0), ("say",)))
        self.assertEqual([deed[:2] for deed in self.desk.lacking((1, 0, 0, 0))], [(1, 2), (4, 1), (1, 3), (2, 1), (3, 1)])

    def test_no_clocks(self):
        for value in (None, 0, (), (0, 0, 0), (0, 0, 0, 0, 0), [0, 0, 0, 0], (0, 0, 0, -1), (0, True, 0, 0), (0, "0", 0, 0)):
            with self.assertRaises(InvalidClock) as caught:
                self.desk.lacking(value)
            self.assertIs(caught.exception.value, value)
            self.assertIs(is_clock(value), False)


class Shown(unittest.TestCase):
    def test_text_of_blocks(self):
        desk = Desk(1)
        block = desk.block(ROOT, None)[:2]
        desk.write(block, 0, "inner")
        self.assertEqual((desk.text(block=block), desk.text(ROOT)), ("inner", ""))
        desk.drop(block)
        self.assertEqual(desk.text(block), "inner")
        desk.undo(1)
        self.assertEqual(desk.text(block), "inner")

    def test_blocks_that_are_not_there(self):
        desk = Desk(1)
        desk.say()
        for block in ((1, 1), (1, 2), (2, 1), (0, 1)):
            with self.assertRaises(NoBlock) as caught:
                desk.text(block)
            self.assertEqual(caught.exception.block, block)

    def test_what_is_returned_stays(self):
        desk = Desk(1)
        desk.write(ROOT, 0, "abc")
        desk.take((2, 2, (0, 1, 0, 0), ("say",)))
        before = state_of(desk)
        copy = repr(before)
        desk.write(ROOT, 1, "x")
        desk.erase(ROOT, 0, 2)
        desk.mark(ROOT, 0, 1, "bold", "on")
        desk.block(ROOT, None)
        desk.take((2, 1, NOUGHT, ("say",)))
        self.assertEqual(repr(before), copy)
        self.assertNotEqual(repr(state_of(desk)), copy)


class Sequences(unittest.TestCase):
    def given(self, dice, hand, history):
        """A desk that was given all deeds, some of them twice, in any sequence; looked at behind each call."""
        desk = Desk(hand)
        whole = list(history) + [dice.choice(history) for _ in range(len(history) // 3)]
        for deed in dice.sample(whole, len(whole)):
            desk.take(deed)
            self.assertEqual(desk.document(), document(part(history, desk.clock())))
            self.assertEqual(desk.deeds(), part(history, desk.clock()))
            missing = [early for early in desk.waiting() if early[1] <= desk.clock()[early[0] - 1]]
            self.assertEqual(missing, [])
        return desk

    def test_each_deed_of_a_history_in_any_sequence(self):
        dice = random.Random(22)
        for _ in range(50):
            history = random_history(dice, dice.randint(1, 22))
            one, two = [self.given(dice, dice.randint(1, 4), history) for _ in range(2)]
            self.assertEqual(one.clock(), clock_of(history))
            self.assertEqual((one.waiting(), two.waiting()), ((), ()))
            self.assertEqual(state_of(one)[1:], state_of(two)[1:])
            self.assertEqual(one.deeds(), history_of(history))
            self.assertEqual(one.document(), document(history))
            for page in one.document():
                self.assertEqual(one.text(page[0]), block_text(history, page[0]))

    def test_forty_deeds_and_many_blocks(self):
        dice = random.Random(40)
        desk = Desk(1)
        for k in range(39):
            blocks = [page[0] for page in desk.document()]
            if k % 5 < 3:
                desk.block(dice.choice(blocks), dice.choice(blocks + [None]))
            else:
                desk.write(dice.choice(blocks), 0, "abcdefgh")
        self.assertEqual(len(self.given(dice, 2, desk.deeds()).document()), 25)

    def test_a_long_chain_of_signs(self):
        # each sign below the one ahead, 320 of them
        one, two = Desk(1), Desk(2)
        deeds = [one.write(ROOT, 8 * k, "abcdefgh") for k in range(40)]
        for deed in deeds[::-1]:
            two.take(deed)
        self.assertEqual(two.text(ROOT), "abcdefgh" * 40)
        self.assertEqual(two.document(), one.document())


class ByDice(unittest.TestCase):
    def run_beside_the_model(self, dice, steps, spoil):
        """Desks and plain ones with the same things done and handed in; the number of errors."""
        pairs = {hand: (Desk(hand), PlainDesk(hand)) for hand in (1, 2, 3, 4)}
        pool, errors = [], 0
        for _ in range(steps):
            desk, plain = pairs[dice.randint(1, 4)]
            if not pool or (dice.random() < 0.4 and len(pool) < 22):
                word, args = random_doing(dice, desk)
                answer = told(getattr(desk, word), *args)
                self.assertEqual(answer, told(plain.do, word, *args), (word, args))
                if answer[0] == "returns":
                    pool.append(answer[1])
            else:
                lacking = [deed for deed in pool if deed[1] > desk.clock()[deed[0] - 1]]
                deed = dice.choice(lacking or pool) if dice.random() < 0.7 else dice.choice(pool)
                if dice.random() < spoil:
                    deed = spoilt_deed(dice, deed, pool)
                answer = told(desk.take, deed)
                self.assertEqual(answer, told(plain.take, deed), deed)
            errors += answer[0] != "returns"
            self.assertEqual(state_of(desk), state_of(plain))
        return errors

    def test_beside_the_model(self):
        dice = random.Random(24)
        errors = sum(self.run_beside_the_model(dice, dice.choice((20, 50)), dice.choice((0, 0.15))) for _ in range(60))
        self.assertGreater(errors, 150)


if __name__ == "__main__":
    unittest.main()
