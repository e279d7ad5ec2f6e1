"""Promise [28]: snapshots, their length, and desks that begin with them."""

import random
import unittest

from quillmoot.clocks import is_within
from quillmoot.desks import Desk
from quillmoot.documents import document
from quillmoot.errors import InvalidHistory, InvalidText, NoBlock, Undefined
from quillmoot.histories import clock_of, history_of
from quillmoot.rows import block_text
from quillmoot.signs import let_go_signs, row_of
from quillmoot.snapshots import base_clock, desk_of, desk_snapshot, kept_signs, rest_of, snapshot
from tests.kept_makers import KEPT, desk_with, gone_in_base, gone_in_rest, partly_gone_in_rest, right_place_gone, shut_in_base
from tests.makers import NOUGHT, Table, random_going, random_history, random_settling, random_stray
from tests.model import Model

ROOT = (0, 0)
HANDS = (1, 2, 3, 4)


def check_of(told):
    """The check of a text."""
    total = 7
    for sign in told.encode("ascii"):
        total = (total * 263 + sign) % 1000003
    return str(total)


def terms_of(history):
    """The numbers on which the length of the snapshot hangs: blocks, signs, marks and notes, bars and lets, the rest."""
    plain = Model(history)
    base = [deed[:2] for deed in plain.base()]
    return (len(plain.blocks()), sum(many for _, many in plain.kept_signs()),
            len([deed for deed in plain.of_word("mark", "note") if plain.counts(deed)]),
            len([deed for deed in plain.of_word("bar", "let") if deed[:2] in base]), len(history) - len(base))


def most_of(history):
    """The greatest length that is promised."""
    b, s, m, l, r = terms_of(history)
    return 800 + 60 * (b + s + m + l + r) + 200 * r


def random_kept(dice, most=24):
    """A history by dice of which something may be let go."""
    maker = dice.choice((random_going, random_stray, random_stray, random_settling))
    return tuple(maker(dice, dice.randint(most // 2, most)).deeds)


class Texts(unittest.TestCase):
    def assert_snapshot(self, history):
        text = snapshot(history)
        self.assertIsInstance(text, str)
        self.assertLessEqual(len(text), most_of(history))
        told, _, check = text.rpartition(" ")
        self.assertEqual(check, check_of(told))
        return text


class Length(Texts):
    def settled(self, *acts):
        """The history of these acts of hand 1, in the base; behind it the settle and a deed of each hand."""
        table = Table()
        for act in acts:
            table.do(1, *act)
        for hand in (2, 3, 4):
            table.do(hand, "say")
        table.meet()
        table.do(1, "settle")
        table.meet()
        for hand in (2, 3, 4):
            table.do(hand, "say")
        table.meet()
        table.do(1, "say")
        return table.history()

    def assert_terms(self, terms, history):
        self.assertEqual(terms_of(history), terms)
        return self.assert_snapshot(history)

    def test_nothing(self):
        self.assert_terms((1, 0, 0, 0, 0), ())
        self.assert_terms((1, 0, 0, 0, 5), self.settled())

    def test_blocks(self):
        acts = [("block", ROOT, None)] + [("block", (1, n), (1, n)) for n in range(1, 16)]
        self.assert_terms((17, 0, 0, 0, 5), self.settled(*acts))
        # those that do not count, and dropped ones
        self.assert_terms((9, 0, 0, 0, 5), self.settled(*acts[:8], *(("undo", n) for n in range(1, 9))))
        self.assert_terms((9, 0, 0, 0, 5), self.settled(*acts[:8], *(("drop", (1, n)) for n in range(1, 9))))

    def test_signs(self):
        acts = [("write", ROOT, None, None, "abcdefgh")]
        acts += [("write", ROOT, (1, n, 7), None, "a bcdef ") for n in range(1, 16)]
        text = self.assert_terms((1, 128, 0, 0, 5), self.settled(*acts))
        # signs are told one by one, without their deeds: a mark at each of them would be told, too
        self.assertNotIn("abcdefgh", text)

    def test_signs_of_deeds_of_one_sign(self):
        acts = [("write", ROOT, None, None, "a")] + [("write", ROOT, None, (1, n, 0), "a") for n in range(1, 16)]
        self.assert_terms((1, 16, 0, 0, 5), self.settled(*acts))

    def test_signs_that_are_shut_and_named(self):
        acts = [("write", ROOT, None, None, "abcdefgh")]
        acts += [("note", (1, 1, k), (1, 1, 7), "so it is") for k in range(5)] + [("undo", n) for n in range(2, 7)]
        acts += [("erase", tuple((1, 1, k) for k in range(8)))]
        self.assert_terms((1, 8, 0, 0, 5), self.settled(*acts))

    def test_marks_and_notes(self):
        acts = [("write", ROOT, None, None, "abcdefgh")]
        acts += [("mark", (1, 1, k), (1, 1, 7), "abcdefgh", "abcdefgh") for k in range(8)]
        acts += [("note", (1, 1, k), (1, 1, 7), "abcd fgh") for k in range(7)]
        self.assert_terms((1, 8, 15, 0, 5), self.settled(*acts))
        # those that do not count are no more than the signs that they name
        self.assert_terms((1, 8, 0, 0, 5), self.settled(*acts[:8], *(("undo", n) for n in range(2, 9))))

    def test_bars_and_lets(self):
        acts = [(("bar", "let")[n // 3 % 2], (2, 3, 4)[n % 3]) for n in range(16)]
        self.assert_terms((1, 0, 0, 16, 5), self.settled(*acts[:12], *acts[6:9], ("let", 2)))

    def test_the_rest(self):
        table = Table()
        table.write(1, ROOT, 0, "abcdefgh")
        for _ in range(11):
            table.do(1, "erase", tuple((1, 1, k) for k in range(8)))
            table.do(1, "undo", len(table.deeds))
        self.assert_terms((1, 8, 0, 0, 23), table.history())

    def test_signs_that_are_let_go(self):
        table = Table()
        for hand in HANDS:
            table.write(hand, ROOT, 0, "abcdefgh")
        table.meet()
        for hand in HANDS:
            table.do(hand, "undo", 1)
        table.meet()
        table.do(1, "settle")
        table.round()
        table.round()
        text = self.assert_terms((1, 0, 0, 0, 9), table.history())
        self.assertNotIn("\nw ", text)

    def test_by_dice(self):
        dice = random.Random(28)
        for _ in range(150):
            self.assert_snapshot(random_kept(dice))
        for _ in range(50):
            self.assert_snapshot(random_history(dice, 24))


class Equal(Texts):
    def test_two_orders(self):
        dice = random.Random(281)
        for maker in KEPT:
            history = maker().history()
            text = self.assert_snapshot(history)
            self.assertEqual(snapshot(history=list(history)[::-1]), text)
            self.assertEqual(snapshot(tuple(dice.sample(history, len(history)))), text)
        for _ in range(30):
            history = random_kept(dice)
            self.assertEqual(snapshot(dice.sample(history, len(history))), snapshot(history))

    def test_unlike_histories(self):
        table = gone_in_base()
        told = {snapshot(table.history())}
        for hand in HANDS:
            table.do(hand, "say")
            told.add(snapshot(table.history()))
        self.assertEqual(len(told), 5)


class Begun(Texts):
    def test_a_desk_of_a_snapshot(self):
        for maker in KEPT:
            history = maker().history()
            for hand in HANDS:
                desk = desk_of(snapshot(history), hand)
                self.assertIsInstance(desk, Desk)
                self.assertEqual((desk.hand, desk.clock(), desk.waiting()), (hand, clock_of(history), ()))
                self.assertEqual(desk.document(), document(history))
                self.assertEqual(desk.text(ROOT), block_text(history, ROOT))
                self.assertEqual(desk_snapshot(desk), snapshot(history))
        self.assertEqual(desk_of(text=snapshot(()), hand=2).document(), ((ROOT, 0, (), ()),))

    def test_told_by_hand(self):
        desks = [desk_of(snapshot(maker().history()), 1) for maker in KEPT]
        self.assertEqual([desk.text(ROOT) for desk in desks], ["abcd", "abcd", "xyg", "xybc", "abc", "", "a", "acd", "abc"])
        self.assertEqual(desks[2].document(), ((ROOT, 0, (("xyg", ()),), ()),))

    def test_blocks(self):
        table = Table()
        one = table.do(1, "block", ROOT, None)
        two = table.do(1, "block", ROOT, one)
        inner = table.do(1, "block", two, None)
        gone = table.do(1, "block", one, None)
        table.write(1, inner, 0, "in it")
        table.write(1, gone, 0, "gone")
        table.do(1, "undo", gone[1])
        table.do(1, "drop", one)
        table.meet()
        table.do(1, "settle")
        table.round()
        history = table.history()
        self.assertEqual(base_clock(history), (8, 0, 0, 0))
        desk = desk_of(snapshot(history), 2)
        self.assertEqual(desk.document(), ((ROOT, 0, (), ()), (two, 1, (), ()), (inner, 2, (("in it", ()),), ())))
        self.assertEqual([desk.text(block) for block in (one, two, inner, gone)], ["", "", "in it", "gone"])
        with self.assertRaises(NoBlock):
            desk.text((1, 5))
        # what is moved out of the dropped one, or into the one that is not in the tree
        desk.move(inner, one, None)
        self.assertEqual(desk.document(), ((ROOT, 0, (), ()), (two, 1, (), ())))
        desk.move(inner, gone, two)
        self.assertEqual([page[:2] for page in desk.document()], [(ROOT, 0), (two, 1), (inner, 1)])

    def test_deeds_are_undefined(self):
        for history in ((), KEPT[0]().history()):
            desk = desk_of(snapshot(history), 1)
            for _ in range(2):
                with self.assertRaises(Undefined) as caught:
                    desk.deeds()
                self.assertEqual(caught.exception.what, "deeds")
                desk.say()

    def test_lacking_is_undefined_where_the_base_is_not_counted(self):
        for maker in KEPT:
            history = maker().history()
            base = base_clock(history)
            desk = desk_of(snapshot(history), 1)
            clocks = [NOUGHT, base, clock_of(history), (30, 30, 30, 30)]
            clocks += [base[:k] + (base[k] + step,) + base[k + 1:] for k in range(4) for step in (-1, 1, 5) if base[k] + step >= 0]
            for clock in clocks:
                if is_within(base, clock):
                    missing = tuple(deed for deed in history_of(history) if deed[1] > clock[deed[0] - 1])
                    self.assertEqual(desk.lacking(clock), missing)
                else:
                    with self.assertRaises(Undefined) as caught:
                        desk.lacking(clock)
                    self.assertEqual(caught.exception.what, "deeds")
            self.assertEqual(desk.lacking(base), rest_of(history))

    def test_an_empty_base_is_always_counted(self):
        desk = desk_of(snapshot(()), 1)
        self.assertEqual(desk.lacking(NOUGHT), ())
        deed = desk.write(ROOT, 0, "a")
        self.assertEqual(desk.lacking(NOUGHT), (deed,))

    def test_it_is_the_base_of_its_own_snapshot_that_tells(self):
        table = gone_in_base()
        history = table.history()
        desk = desk_of(snapshot(history), 1)
        table.do(1, "settle")
        table.round()
        table.round()
        for deed in table.history():
            desk.take(deed)
        self.assertNotEqual(base_clock(table.history()), base_clock(history))
        # it has the deeds behind the base with which it began still
        more = tuple(deed for deed in history_of(table.history()) if deed[1] > base_clock(history)[deed[0] - 1])
        self.assertEqual(desk.lacking(base_clock(history)), more)
        again = desk_of(desk_snapshot(desk), 1)
        self.assertRaises(Undefined, again.lacking, base_clock(history))
        self.assertEqual(again.lacking(base_clock(table.history())), rest_of(table.history()))

    def test_unlike_deeds(self):
        history = gone_in_base().history()
        desk = desk_of(snapshot(history), 1)
        # those that the clock counts are passed over, whatever they are
        for deed in ((1, 1, NOUGHT, ("say",)), (4, 3, (4, 3, 2, 2), ("settle",)), (2, 1, (0, 0, 0, 0), ("write", ROOT, None, None, "q"))):
            self.assertEqual(desk.take(deed), ())
        self.assertEqual(desk_snapshot(desk), snapshot(history))


class Snapshots(Texts):
    def test_of_desks(self):
        dice = random.Random(282)
        for _ in range(60):
            history = random_kept(dice)
            cut = dice.choice([deed[2] for deed in history] + [clock_of(history)])
            first = [deed for deed in history if deed[1] <= cut[deed[0] - 1]]
            whole, begun = desk_with(1, first), desk_of(snapshot(first), 1)
            self.assertEqual((desk_snapshot(whole), desk_snapshot(begun)), (snapshot(first),) * 2)
            for deed in dice.sample(history, len(history)):
                whole.take(deed)
                begun.take(deed)
                # also while deeds wait
                now = tuple(deed for deed in history if deed[1] <= whole.clock()[deed[0] - 1])
                self.assertEqual(desk_snapshot(desk=whole), snapshot(now))
                self.assertEqual(desk_snapshot(begun), snapshot(now))
                begun = desk_of(desk_snapshot(begun), 1) if dice.random() < 0.2 and not begun.waiting() else begun

    def test_it_changes_nothing(self):
        desk = desk_of(snapshot(shut_in_base().history()), 1)
        desk.take((2, 9, (9, 8, 0, 0), ("say",)))
        before = (desk.clock(), desk.document(), desk.waiting())
        text = desk_snapshot(desk)
        kept_signs(desk)
        self.assertEqual((desk.clock(), desk.document(), desk.waiting()), before)
        self.assertEqual(desk_snapshot(desk), text)


class Spoilt(Texts):
    def assert_spoilt(self, text):
        with self.assertRaises(InvalidText) as caught:
            desk_of(text, 1)
        self.assertEqual((caught.exception.text, caught.exception.at), (text, 0))

    def test_short_texts(self):
        for text in ("", " ", "7", "7 ", " 8", "say", "  ", " -7", " +7", " 07", " 1000010"):
            self.assert_spoilt(text)

    def test_a_sign_exchanged(self):
        dice = random.Random(283)
        for maker in (gone_in_base, shut_in_base):
            text = snapshot(maker().history())
            for at, sign in enumerate(text):
                other = dice.choice([other for other in "abz019 .-+*,;\n" if other != sign])
                self.assert_spoilt(text[:at] + other + text[at + 1:])

    def test_two_neighbours_turned(self):
        text = snapshot(shut_in_base().history())
        for at in range(len(text) - 1):
            if text[at] != text[at + 1]:
                self.assert_spoilt(text[:at] + text[at + 1] + text[at] + text[at + 2:])

    def test_a_sign_more_or_less(self):
        text = snapshot(gone_in_base().history())
        for at in range(len(text)):
            self.assert_spoilt(text[:at] + text[at + 1:])
            self.assert_spoilt(text[:at] + "0" + text[at:])

    def test_checks(self):
        told, _, check = snapshot(gone_in_rest().history()).rpartition(" ")
        for wrong in (check + "0", "0" + check, check[:-1], check[1:], "", str(int(check) + 1), str(int(check) + 1000003), "-" + check,
                      "+" + check, check + "\n", "x", check[::-1]):
            if wrong != check:
                self.assert_spoilt(told + " " + wrong)
        self.assert_spoilt(told + check)
        self.assert_spoilt(told.replace(" ", "_") + check)
        self.assert_spoilt(told + " " + check + " ")

    def test_cut_off(self):
        text = snapshot(right_place_gone().history())
        for at in range(len(text)):
            self.assert_spoilt(text[:at])


class Kept(Texts):
    def test_told_by_hand(self):
        for maker, many in zip(KEPT, (4, 6, 9, 6, 6, 0, 1, 3, 3)):
            history = maker().history()
            for desk in (desk_with(2, history), desk_of(snapshot(history), 2)):
                self.assertEqual(kept_signs(desk=desk), ((ROOT, many),))

    def test_no_deeds(self):
        self.assertEqual(kept_signs(Desk(1)), ((ROOT, 0),))

    def test_each_block(self):
        desk = Desk(2)
        blocks = [desk.block(ROOT, None)[:2] for _ in range(3)]
        desk.take((1, 1, NOUGHT, ("block", ROOT, None)))
        for block, text in zip(blocks, ("a", "bc", "")):
            if text:
                desk.write(block, 0, text)
        desk.undo(2)
        desk.drop(blocks[0])
        self.assertEqual(kept_signs(desk), ((ROOT, 0), ((1, 1), 0), (blocks[0], 1), (blocks[1], 2), (blocks[2], 0)))

    def test_against_those_that_are_let_go(self):
        dice = random.Random(284)
        gone = 0
        for _ in range(60):
            history = random_kept(dice)
            for desk in (desk_with(3, history), desk_of(snapshot(history), 3)):
                told = kept_signs(desk)
                self.assertEqual(told, Model(history).kept_signs())
                for block, many in told:
                    left = len(let_go_signs(history, block))
                    self.assertEqual(many, len(row_of(history, block)) - left)
                    gone += left
        self.assertGreater(gone, 30)

    def test_deeds_that_wait_do_not_matter(self):
        desk = desk_with(3, partly_gone_in_rest().history())
        desk.take((2, 9, (9, 8, 9, 9), ("block", ROOT, None)))
        self.assertEqual(kept_signs(desk), ((ROOT, 1),))


class Wrong(Texts):
    def test_no_histories(self):
        for value in (None, [None], [(1, 2, (1, 0, 0, 0), ("say",))]):
            with self.assertRaises(InvalidHistory) as caught:
                snapshot(value)
            self.assertIs(caught.exception.value, value)


if __name__ == "__main__":
    unittest.main()
