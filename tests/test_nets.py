"""Promises [25] and [26]: nets."""

import random
import unittest

from quillmoot import nets
from quillmoot.desks import Desk
from quillmoot.errors import InvalidDeed, InvalidNumber, Undefined
from quillmoot.histories import is_history
from quillmoot.nets import Net
from quillmoot.snapshots import desk_of, desk_snapshot
from tests.desk_makers import random_doing, told
from tests.makers import NOUGHT, Table
from tests.net_model import PlainNet

ROOT = (0, 0)
HANDS = (1, 2, 3, 4)
NO_HANDS = (0, 5, -1, 10 ** 9)
METHODS = "desk seat post messages deliver double lose put_off divide unite meet is_calm".split()
CALMING = ((1, 2), (2, 3), (3, 4)) * 4


def state_of(net):
    """All that a net tells; it is asked whether two hands are in one part by what a message would do alone."""
    desks = [net.desk(hand) for hand in HANDS]
    return (net.messages(), net.is_calm(), tuple(desk.clock() for desk in desks), tuple(desk.waiting() for desk in desks),
            tuple(desk.document() for desk in desks))


def say(hand, number):
    return (hand, number, NOUGHT[:hand - 1] + (number - 1,) + NOUGHT[hand:], ("say",))


class Nets(unittest.TestCase):
    def setUp(self):
        self.net = Net()
        self.desks = {hand: self.net.desk(hand) for hand in HANDS}

    def assert_refused(self, error, field, value, call, *args):
        before = state_of(self.net)
        with self.assertRaises(error) as caught:
            call(*args)
        told_value = getattr(caught.exception, field)
        self.assertTrue(told_value is value or told_value == value, told_value)
        self.assertEqual(state_of(self.net), before)


class Anew(Nets):
    def test_four_desks_and_no_messages(self):
        for hand in HANDS:
            desk = self.net.desk(hand)
            self.assertIsInstance(desk, Desk)
            self.assertEqual((desk.hand, desk.clock(), desk.deeds()), (hand, NOUGHT, ()))
        self.assertEqual(self.net.messages(), ())
        self.assertIs(self.net.is_calm(), True)

    def test_the_desk_itself(self):
        for hand in HANDS:
            self.assertIs(self.net.desk(hand), self.net.desk(hand=hand))
        self.net.desk(2).say()
        self.assertEqual(self.net.desk(2).clock(), (0, 1, 0, 0))
        self.assertIsNot(self.net.desk(1), self.net.desk(2))

    def test_no_hands(self):
        for hand in NO_HANDS:
            self.assert_refused(InvalidNumber, "value", hand, self.net.desk, hand)

    def test_two_nets_share_nothing(self):
        other = Net()
        self.net.post(self.desks[1].say())
        self.net.divide((1, 2, 3, 4))
        self.assertEqual((other.messages(), other.desk(1).clock(), other.meet(1, 2)), ((), NOUGHT, True))

    def test_methods_stand_in_the_class_itself(self):
        for name in METHODS:
            self.assertIn(name, vars(Net))
        self.assertEqual((Net.__module__, nets.Net), ("quillmoot.nets", Net))


class Seats(Nets):
    def test_a_desk_comes_in_place_of_another_one(self):
        desk = Desk(3)
        desk.say()
        self.assertIsNone(self.net.seat(desk))
        self.assertIs(self.net.desk(3), desk)
        for hand in (1, 2, 4):
            self.assertIs(self.net.desk(hand), self.desks[hand])
        self.assertIs(self.net.is_calm(), False)
        self.assertIsNone(self.net.seat(desk=self.desks[3]))
        self.assertIs(self.net.is_calm(), True)

    def test_messages_go_to_the_new_desk(self):
        self.net.post(self.desks[1].say())
        desk = Desk(2)
        self.net.seat(desk)
        self.assertIs(self.net.deliver(0), True)
        self.assertEqual((desk.clock(), self.desks[2].clock()), ((1, 0, 0, 0), NOUGHT))


class Messages(Nets):
    def sent(self):
        """One has said two things and three one, and all of it is posted."""
        for hand in (1, 3, 1):
            self.assertIsNone(self.net.post(self.desks[hand].say()))
        return ((2, (1, 1)), (3, (1, 1)), (4, (1, 1)), (1, (3, 1)), (2, (3, 1)), (4, (3, 1)), (2, (1, 2)), (3, (1, 2)), (4, (1, 2)))

    def test_posting(self):
        self.assertEqual(self.sent(), self.net.messages())
        self.assertEqual([self.desks[hand].clock() for hand in HANDS], [(2, 0, 0, 0), NOUGHT, (0, 0, 1, 0), NOUGHT])

    def test_posting_once_more_and_what_was_kept_back(self):
        messages = self.sent()
        self.net.post(deed=say(1, 1))
        # neither was done at a desk of the net
        self.net.post(say(4, 7))
        self.assertEqual(self.net.messages(), messages + ((2, (1, 1)), (3, (1, 1)), (4, (1, 1)), (1, (4, 7)), (2, (4, 7)), (3, (4, 7))))

    def test_posting_what_is_no_deed(self):
        self.sent()
        for value in (None, 0, (), (1, 1, NOUGHT), list(say(1, 1)), (1, 2, NOUGHT, ("say",)), (1, 1, NOUGHT, ["say"]), "1.1 0.0.0.0 say"):
            self.assert_refused(InvalidDeed, "value", value, self.net.post, value)

    def test_delivering(self):
        messages = self.sent()
        self.assertIs(self.net.deliver(4), True)
        self.assertEqual(self.net.messages(), messages[:4] + messages[5:])
        self.assertEqual(self.desks[2].clock(), (0, 0, 1, 0))
        self.assertIs(self.net.deliver(k=0), True)
        self.assertEqual(self.desks[2].clock(), (1, 0, 1, 0))
        self.assertEqual(self.net.messages(), messages[1:4] + messages[5:])
        self.assertEqual([self.desks[hand].clock() for hand in (1, 3, 4)], [(2, 0, 0, 0), (0, 0, 1, 0), NOUGHT])

    def test_a_delivery_that_waits(self):
        messages = self.sent()
        self.assertIs(self.net.deliver(8), True)
        self.assertEqual((self.desks[4].clock(), self.desks[4].waiting()), (NOUGHT, ((1, 2),)))
        self.assertIs(self.net.deliver(2), True)
        self.assertEqual((self.desks[4].clock(), self.desks[4].waiting()), ((2, 0, 0, 0), ()))
        self.assertEqual(self.net.messages(), messages[:2] + messages[3:8])

    def test_deliveries_that_a_desk_refuses(self):
        self.desks[2].say()
        self.net.post((1, 1, NOUGHT, ("drop", (1, 1))))
        self.net.post((2, 1, NOUGHT, ("block", ROOT, None)))
        before = state_of(self.net)
        # the first does not fit, and of the other one desk 2 would have another one
        self.assertIs(self.net.deliver(0), True)
        self.assertEqual(state_of(self.net), (before[0][1:],) + before[1:])
        self.net.seat(desk := Desk(3))
        desk.take((2, 1, (0, 0, 0, 1), ("say",)))
        self.assertEqual(self.net.messages()[3], (3, (2, 1)))
        self.assertIs(self.net.deliver(3), True)
        self.assertEqual((desk.clock(), desk.waiting()), (NOUGHT, ((2, 1),)))

    def test_a_delivery_of_what_is_there(self):
        self.sent()
        self.net.double(0)
        self.net.deliver(0)
        clock = self.desks[2].clock()
        self.assertIs(self.net.deliver(8), True)
        self.assertEqual((self.desks[2].clock(), len(self.net.messages())), (clock, 8))

    def test_doubling(self):
        messages = self.sent()
        self.assertIsNone(self.net.double(k=4))
        self.assertEqual(self.net.messages(), messages + messages[4:5])
        self.assertIsNone(self.net.double(9))
        self.assertEqual(self.net.messages(), messages + messages[4:5] * 2)

    def test_losing(self):
        messages = self.sent()
        self.assertIsNone(self.net.lose(4))
        self.assertIsNone(self.net.lose(k=0))
        self.assertIsNone(self.net.lose(6))
        self.assertEqual(self.net.messages(), messages[1:4] + messages[5:8])
        self.assertEqual(self.desks[2].clock(), NOUGHT)

    def test_putting_off(self):
        messages = self.sent()
        self.assertIsNone(self.net.put_off(3))
        self.assertEqual(self.net.messages(), messages[:3] + messages[4:] + messages[3:4])
        self.assertIsNone(self.net.put_off(k=8))
        self.assertEqual(self.net.messages(), messages[:3] + messages[4:] + messages[3:4])
        self.net.put_off(0)
        self.assertEqual(self.net.messages(), messages[1:3] + messages[4:] + messages[3:4] + messages[:1])

    def test_numbers_that_no_message_has(self):
        for call in (self.net.deliver, self.net.double, self.net.lose, self.net.put_off):
            self.assert_refused(InvalidNumber, "value", 0, call, 0)
        self.sent()
        for call in (self.net.deliver, self.net.double, self.net.lose, self.net.put_off):
            for k in (-1, -9, 9, 10, 10 ** 9):
                self.assert_refused(InvalidNumber, "value", k, call, k)


class Parts(Nets):
    def test_deliveries_between_unlike_parts(self):
        self.net.post(self.desks[1].say())
        self.assertIsNone(self.net.divide((7, 7, 8, 9)))
        before = state_of(self.net)
        self.assertIs(self.net.deliver(1), False)
        self.assertIs(self.net.deliver(2), False)
        self.assertEqual(state_of(self.net), before)
        self.assertIs(self.net.deliver(0), True)
        self.assertIs(self.net.deliver(0), False)
        self.assertIsNone(self.net.unite())
        self.assertIs(self.net.deliver(0), True)
        self.assertEqual([self.desks[hand].clock()[0] for hand in HANDS], [1, 1, 1, 0])

    def test_it_is_the_hand_of_the_deed_that_sends(self):
        # a deed of hand 1 that was done by nobody here
        self.net.post(say(1, 1))
        self.net.divide([1, 2, 1, 2])
        self.assertEqual([self.net.deliver(k) for k in (0, 1, 1)], [False, True, False])

    def test_meetings_between_unlike_parts(self):
        for hand in HANDS:
            self.desks[hand].say()
        self.net.divide(parts=(0, 1, 0, 1))
        before = state_of(self.net)
        for a, b in ((1, 2), (2, 1), (1, 4), (2, 3), (3, 4)):
            self.assertIs(self.net.meet(a, b), False)
        self.assertEqual(state_of(self.net), before)
        self.assertIs(self.net.meet(3, 1), True)
        self.assertIs(self.net.meet(2, 4), True)
        self.assertEqual([self.desks[hand].clock() for hand in HANDS], [(1, 0, 1, 0), (0, 1, 0, 1)] * 2)

    def test_integers_of_any_size(self):
        for parts in ((-5, 10 ** 20, -5, 0), [2 ** 70, 1, 2 ** 70, 2]):
            self.net.divide(parts)
            self.assertEqual([self.net.meet(1, b) for b in (2, 3, 4)], [False, True, False])
            self.assertIs(self.net.meet(2, 4), False)

    def test_the_sequence_changed_behind_the_call(self):
        parts = [1, 1, 2, 2]
        self.net.divide(parts)
        self.assertEqual(parts, [1, 1, 2, 2])
        parts[1] = 2
        parts.append(3)
        self.assertEqual([self.net.meet(a, b) for a, b in ((1, 2), (2, 3), (3, 4))], [True, False, True])

    def test_a_later_division_takes_the_place_of_the_earlier_one(self):
        self.net.divide((1, 1, 2, 2))
        self.net.divide((1, 2, 2, 1))
        self.assertEqual([self.net.meet(a, b) for a, b in ((1, 2), (2, 3), (3, 4), (1, 4))], [False, True, False, True])
        self.net.divide((3, 3, 3, 3))
        self.assertEqual([self.net.meet(a, b) for a, b in ((1, 2), (2, 3), (3, 4))], [True] * 3)

    def test_posting_and_the_rest_in_unlike_parts(self):
        self.net.divide((1, 2, 3, 4))
        self.net.post(self.desks[1].say())
        self.net.double(0)
        self.net.put_off(1)
        self.net.lose(0)
        self.assertEqual(self.net.messages(), ((4, (1, 1)), (2, (1, 1)), (3, (1, 1))))


class Meetings(Nets):
    def test_each_takes_what_it_lacks(self):
        one, two = self.desks[1], self.desks[2]
        one.write(ROOT, 0, "ab")
        two.write(ROOT, 0, "xy")
        two.erase(ROOT, 0, 1)
        self.assertIs(self.net.meet(a=1, b=2), True)
        self.assertEqual((one.clock(), two.clock()), ((1, 2, 0, 0), (1, 2, 0, 0)))
        self.assertEqual((one.text(ROOT), two.text(ROOT)), ("aby", "aby"))
        self.assertEqual(self.desks[3].clock(), NOUGHT)
        self.assertIs(self.net.meet(3, 2), True)
        self.assertEqual(self.desks[3].document(), one.document())

    def test_what_had_waited_at_the_first_and_came(self):
        self.desks[1].take((3, 1, (0, 1, 0, 0), ("say",)))
        self.desks[2].say()
        self.net.meet(1, 2)
        self.assertEqual([self.desks[hand].clock() for hand in (1, 2)], [(0, 1, 1, 0)] * 2)

    def test_what_waits_at_the_second_comes_too(self):
        self.desks[2].take((3, 1, (1, 0, 0, 0), ("say",)))
        self.desks[1].say()
        self.net.meet(1, 2)
        # one has asked by then, so it gets this at the next meeting
        self.assertEqual([self.desks[hand].clock() for hand in (1, 2)], [(1, 0, 0, 0), (1, 0, 1, 0)])
        self.net.meet(1, 2)
        self.assertEqual(self.desks[1].clock(), (1, 0, 1, 0))

    def test_deeds_that_are_refused_are_passed_over(self):
        self.desks[1].take((3, 1, (0, 0, 0, 9), ("settle",)))
        for deed in (say(3, 1), say(3, 2), say(4, 1)):
            self.desks[2].take(deed)
        self.assertIs(self.net.meet(1, 2), True)
        # of the unlike one nothing came, and so the next one of its hand waits
        self.assertEqual((self.desks[1].clock(), self.desks[1].waiting()), ((0, 0, 0, 1), ((3, 1), (3, 2))))
        self.assertIs(self.net.meet(2, 1), True)
        self.assertEqual((self.desks[2].clock(), self.desks[2].waiting()), ((0, 0, 2, 1), ()))

    def test_a_misfit_is_passed_over(self):
        one, two = self.desks[1], self.desks[2]
        # one was told of another deed with the id of the write
        one.take(say(2, 1))
        two.write(ROOT, 0, "a")
        two.take((3, 1, (0, 1, 0, 0), ("erase", ((2, 1, 0),))))
        two.take((4, 1, (0, 1, 0, 0), ("say",)))
        self.assertIs(self.net.meet(1, 2), True)
        self.assertEqual((one.clock(), one.waiting(), two.clock()), ((0, 1, 0, 1), (), (0, 1, 1, 1)))

    def test_a_desk_with_itself(self):
        self.desks[2].say()
        self.desks[2].take(say(3, 2))
        before = state_of(self.net)
        for hand in HANDS:
            self.assertIs(self.net.meet(hand, hand), True)
        self.net.divide((1, 2, 3, 4))
        self.assertIs(self.net.meet(2, 2), True)
        self.assertEqual(state_of(self.net), before)

    def test_no_hands(self):
        self.net.divide((1, 2, 3, 4))
        for hand in NO_HANDS:
            self.assert_refused(InvalidNumber, "value", hand, self.net.meet, hand, 1)
            self.assert_refused(InvalidNumber, "value", hand, self.net.meet, 1, hand)
            self.assert_refused(InvalidNumber, "value", hand, self.net.meet, hand, 9)
        self.assert_refused(InvalidNumber, "value", 9, self.net.meet, 9, 0)

    def test_lacking_undefined(self):
        """A desk of another net that began with a snapshot whose base is not empty."""
        table = Table()
        table.write(1, ROOT, 0, "abc")
        table.round()
        table.do(1, "settle")
        table.round()
        whole = Desk(3)
        for deed in table.history():
            whole.take(deed)
        self.net.seat(desk_of(desk_snapshot(whole), 3))
        self.assert_refused(Undefined, "what", "deeds", self.net.meet, 1, 3)
        self.assert_refused(Undefined, "what", "deeds", self.net.meet, 3, 1)
        # asked ahead: nothing is taken of what could be told, and would wait
        for _ in range(6):
            self.desks[1].say()
        self.assertEqual(desk_of(desk_snapshot(whole), 3).take(self.desks[1].deeds()[5]), ())
        self.assert_refused(Undefined, "what", "deeds", self.net.meet, 3, 1)
        self.assert_refused(Undefined, "what", "deeds", self.net.meet, 1, 3)
        self.assertIs(self.net.meet(3, 3), True)
        self.net.divide((1, 1, 2, 1))
        self.assertIs(self.net.meet(3, 1), False)


class Calm(Nets):
    def test_is_calm(self):
        deed = self.desks[4].say()
        self.assertIs(self.net.is_calm(), False)
        for hand in (1, 2, 3):
            self.assertIs(self.net.is_calm(), False)
            self.desks[hand].take(deed)
        self.assertIs(self.net.is_calm(), True)

    def test_messages_and_waiting_deeds_do_not_matter(self):
        self.net.post(say(1, 2))
        self.desks[3].take(say(1, 2))
        self.net.divide((1, 2, 3, 4))
        self.assertIs(self.net.is_calm(), True)

    def test_messages_that_come_when_all_is_calm(self):
        deeds = [self.desks[hand].write(ROOT, 0, "ab") for hand in HANDS]
        for deed in deeds:
            self.net.post(deed)
        for a, b in CALMING:
            self.assertIs(self.net.meet(a, b), True)
        self.assertIs(self.net.is_calm(), True)
        document = self.desks[1].document()
        while self.net.messages():
            self.assertIs(self.net.deliver(len(self.net.messages()) // 2), True)
            self.assertEqual([self.desks[hand].document() for hand in HANDS], [document] * 4)
            self.assertEqual(self.desks[1].clock(), (1, 1, 1, 1))


class ByDice(unittest.TestCase):
    def step(self, dice, net, plain, done):
        """One step at a net and a plain one, with the same answer."""
        kind = dice.random()
        many = len(net.messages())
        k = dice.randrange(-1, many + 2) if dice.random() < 0.1 else dice.randrange(many) if many else 0
        hand, other = (dice.choice(HANDS) if dice.random() < 0.98 else 5 for _ in range(2))
        if kind < 0.35 and len(done) < 18 and many < 30:
            hand = dice.choice(HANDS)
            word, args = random_doing(dice, net.desk(hand))
            answer = told(getattr(net.desk(hand), word), *args)
            self.assertEqual(answer, told(plain.desk(hand).do, word, *args))
            if answer[0] == "returns":
                done.append(answer[1])
                if dice.random() < 0.8:
                    net.post(answer[1])
                    plain.post(answer[1])
            return
        if kind < 0.75:
            word, args = dice.choice(("deliver",) * 6 + ("double", "lose", "put_off")), (k,)
        elif kind < 0.85:
            word, args = "meet", (hand, other)
        elif kind < 0.9:
            word, args = dice.choice((("divide", (tuple(dice.randint(1, 2) for _ in HANDS),)), ("unite", ()), ("unite", ())))
        elif kind < 0.93 and done:
            word, args = "post", (dice.choice(done),)
        elif kind < 0.96:
            hand = dice.choice(HANDS)
            net.seat(desk_of(desk_snapshot(net.desk(hand)), hand))
            plain.fresh(hand)
            return
        else:
            word, args = "is_calm", ()
        self.assertEqual(told(getattr(net, word), *args), told(getattr(plain, word), *args))

    def assert_alike(self, net, plain):
        self.assertEqual(net.messages(), plain.messages())
        for hand in HANDS:
            desk, other = net.desk(hand), plain.desk(hand)
            self.assertEqual((desk.clock(), desk.waiting(), desk.document()), (other.clock(), other.waiting(), other.document()))

    def test_beside_the_plain_net(self):
        dice = random.Random(26)
        for _ in range(100):
            net, plain, done = Net(), PlainNet(), []
            clocks = [NOUGHT] * 4
            for _ in range(50):
                self.step(dice, net, plain, done)
                self.assert_alike(net, plain)
                now = [net.desk(hand).clock() for hand in HANDS]
                # no desk loses a deed, and equal clocks tell equal documents
                self.assertTrue(all(a <= b for old, new in zip(clocks, now) for a, b in zip(old, new)))
                documents = {clock: net.desk(hand).document() for clock, hand in zip(now, HANDS)}
                self.assertEqual([documents[clock] for clock in now], [net.desk(hand).document() for hand in HANDS])
                clocks = now
            for hand in HANDS:
                deeds = told(net.desk(hand).deeds)
                self.assertTrue(deeds[0] == "Undefined" or is_history(deeds[1]))
            self.calm(net, done)

    def calm(self, net, done):
        """The twelve meetings make a joined net calm, with all deeds everywhere."""
        net.unite()
        for a, b in CALMING:
            self.assertIs(net.meet(a, b), True)
        self.assertIs(net.is_calm(), True)
        clock = tuple(len([deed for deed in done if deed[0] == hand]) for hand in HANDS)
        self.assertEqual([net.desk(hand).clock() for hand in HANDS], [clock] * 4)
        self.assertEqual(len({net.desk(hand).document() for hand in HANDS}), 1)


if __name__ == "__main__":
    unittest.main()
