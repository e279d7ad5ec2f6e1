"""Promise [23]: what desks do, and what they refuse."""

import unittest

from quillmoot.desks import Desk
from quillmoot.errors import InvalidNumber, NoBlock, NotAllowed, Unlike
from quillmoot.signs import open_row, passed_signs, row_of
from tests.makers import NOUGHT

ROOT = (0, 0)
# each doing with arguments that are right at the desks of these tests
DOINGS = (("write", (ROOT, 0, "x")), ("erase", (ROOT, 0, 1)), ("mark", (ROOT, 0, 1, "bold", "on")), ("note", (ROOT, 0, 1, "so")),
          ("block", (ROOT, None)), ("move", ((1, 2), ROOT, None)), ("drop", ((1, 2),)), ("undo", (1,)), ("redo", (1,)))
NO_BLOCKS = ((1, 1), (2, 9), (4, 1), (1, 99))


def meet(*desks):
    """All these desks come to have all deeds of one another."""
    for one in desks:
        for other in desks:
            for deed in other.lacking(one.clock()):
                one.take(deed)


class Doings(unittest.TestCase):
    def setUp(self):
        """One has typed abcdefghij and made a block with "in" and an empty one; two has typed "xy" at the end."""
        self.one, self.two = Desk(1), Desk(2)
        self.one.write(ROOT, 0, "abcdefgh")
        self.block = self.one.block(ROOT, None)[:2]
        self.one.write(ROOT, 8, "ij")
        self.one.write(self.block, 0, "in")
        self.empty = self.one.block(self.block, None)[:2]
        meet(self.one, self.two)
        self.two.write(ROOT, 10, "xy")
        meet(self.one, self.two)

    def assert_refused(self, error, field, value, desk, word, *args):
        before = (desk.clock(), desk.document(), desk.waiting(), desk.deeds())
        with self.assertRaises(error) as caught:
            getattr(desk, word)(*args)
        self.assertEqual(getattr(caught.exception, field), value)
        self.assertEqual((desk.clock(), desk.document(), desk.waiting(), desk.deeds()), before)

    def assert_no_number(self, value, desk, word, *args):
        self.assert_refused(InvalidNumber, "value", value, desk, word, *args)

    def assert_no_block(self, block, desk, word, *args):
        self.assert_refused(NoBlock, "block", block, desk, word, *args)

    def act(self, desk, word, *args):
        """Do it; the act, once it is seen that the deed is the next one of the desk with its clock as seen."""
        clock = desk.clock()
        deed = getattr(desk, word)(*args)
        self.assertEqual(deed[:3], (desk.hand, clock[desk.hand - 1] + 1, clock))
        self.assertEqual(desk.clock()[desk.hand - 1], clock[desk.hand - 1] + 1)
        self.assertEqual(desk.deeds()[-1] if len(desk.deeds()) == sum(clock) + 1 else deed, deed)
        return deed[3]


class Writing(Doings):
    def test_at_the_beginning_within_and_at_the_end(self):
        self.assertEqual(self.act(self.two, "write", ROOT, 0, "q"), ("write", ROOT, None, (1, 1, 0), "q"))
        self.assertEqual(self.act(self.two, "write", ROOT, 3, "r"), ("write", ROOT, (1, 1, 1), (1, 1, 2), "r"))
        self.assertEqual(self.act(self.two, "write", ROOT, 14, "s"), ("write", ROOT, (2, 1, 1), None, "s"))
        self.assertEqual(self.two.text(ROOT), "qabrcdefghijxys")

    def test_in_an_empty_block(self):
        self.assertEqual(self.act(self.two, "write", self.empty, 0, "q"), ("write", self.empty, None, None, "q"))
        self.assert_no_number(2, self.two, "write", self.empty, 2, "q")

    def test_by_names(self):
        deed = self.two.write(block=ROOT, at=0, text="q r")
        self.assertEqual(deed, (2, 2, (5, 1, 0, 0), ("write", ROOT, None, (1, 1, 0), "q r")))

    def test_open_signs_that_are_not_shown_come_behind(self):
        self.two.erase(ROOT, 2, 3)
        self.assertEqual(self.two.text(ROOT), "abfghijxy")
        self.assertEqual(self.act(self.two, "write", ROOT, 2, "q"), ("write", ROOT, (1, 1, 1), (1, 1, 2), "q"))
        self.assertEqual(row_of(self.two.deeds(), ROOT)[:4], ((1, 1, 0), (1, 1, 1), (2, 3, 0), (1, 1, 2)))

    def test_open_signs_that_are_not_shown_at_both_ends(self):
        self.two.erase(ROOT, 0, 1)
        self.two.erase(ROOT, 10, 1)
        self.assertEqual(self.two.text(ROOT), "bcdefghijx")
        self.assertEqual(self.act(self.two, "write", ROOT, 0, "q"), ("write", ROOT, None, (1, 1, 0), "q"))
        self.assertEqual(self.act(self.two, "write", ROOT, 11, "r"), ("write", ROOT, (2, 1, 0), (2, 1, 1), "r"))
        self.assertEqual(self.two.text(ROOT), "qbcdefghijxr")

    def test_where_nothing_is_shown(self):
        self.two.erase(self.block, 0, 2)
        self.assertEqual(self.act(self.two, "write", self.block, 0, "q"), ("write", self.block, None, (1, 4, 0), "q"))

    def test_passed_signs_are_passed_over(self):
        desks = [self.one, self.two, Desk(3), Desk(4)]
        self.one.erase(ROOT, 8, 4)
        self.one.settle()
        meet(*desks)
        for desk in desks:
            desk.say()
        meet(*desks)
        gone = ((1, 3, 0), (1, 3, 1), (2, 1, 0), (2, 1, 1))
        self.assertEqual(passed_signs(self.two.deeds(), ROOT), gone)
        self.assertEqual(open_row(self.two.deeds(), ROOT)[-1], (1, 1, 7))
        self.assertEqual(self.act(self.two, "write", ROOT, 8, "q"), ("write", ROOT, (1, 1, 7), None, "q"))
        # passed signs alone, and then one that is open and not shown
        self.two.erase(ROOT, 8, 1)
        self.assertEqual(self.act(self.two, "write", ROOT, 8, "r"), ("write", ROOT, (1, 1, 7), (2, 3, 0), "r"))

    def test_passed_signs_within(self):
        desks = [self.one, self.two, Desk(3), Desk(4)]
        mid = self.two.write(ROOT, 4, "mid")
        meet(*desks)
        self.two.undo(mid[1])
        meet(*desks)
        self.one.settle()
        meet(*desks)
        for desk in desks:
            desk.say()
        meet(*desks)
        self.assertEqual(passed_signs(self.two.deeds(), ROOT), ((2, 2, 0), (2, 2, 1), (2, 2, 2)))
        self.assertEqual(self.act(desks[3], "write", ROOT, 4, "q"), ("write", ROOT, (1, 1, 3), (1, 1, 4), "q"))

    def test_places_that_are_not_there(self):
        for at in (-1, -12, 13, 100, 10 ** 9):
            self.assert_no_number(at, self.two, "write", ROOT, at, "q")
        for at in (-1, 3):
            self.assert_no_number(at, self.two, "write", self.block, at, "q")

    def test_blocks_that_are_not_there_or_not_shown(self):
        for block in NO_BLOCKS:
            self.assert_no_block(block, self.two, "write", block, -1, "q")
        self.one.drop(self.block)
        for block in (self.block, self.empty):
            self.assert_no_block(block, self.one, "write", block, 99, "q")
        self.assertEqual(self.one.text(self.block), "in")


class Spans(Doings):
    def test_erase(self):
        self.assertEqual(self.act(self.two, "erase", ROOT, 0, 1), ("erase", ((1, 1, 0),)))
        self.assertEqual(self.act(self.two, "erase", ROOT, 9, 2), ("erase", ((2, 1, 0), (2, 1, 1))))
        self.assertEqual(self.act(self.two, "erase", ROOT, 0, 8),
                         ("erase", tuple((1, 1, k) for k in range(1, 8)) + ((1, 3, 0),)))
        self.assertEqual(self.two.text(ROOT), "j")
        deed = self.two.erase(block=self.block, at=1, many=1)
        self.assertEqual(deed[3], ("erase", ((1, 4, 1),)))

    def test_the_signs_of_an_erase_ascend(self):
        self.one.write(ROOT, 2, "q")
        self.two.write(ROOT, 2, "r")
        meet(self.one, self.two)
        self.assertEqual(self.two.text(ROOT), "abqrcdefghijxy")
        self.assertEqual(self.act(self.two, "erase", ROOT, 1, 4), ("erase", ((1, 1, 1), (1, 1, 2), (1, 6, 0), (2, 2, 0))))

    def test_only_shown_signs_are_counted(self):
        self.two.erase(ROOT, 1, 2)
        self.assertEqual(self.act(self.two, "erase", ROOT, 0, 2), ("erase", ((1, 1, 0), (1, 1, 3))))
        self.assertEqual(self.act(self.two, "mark", ROOT, 0, 2, "bold", None), ("mark", (1, 1, 4), (1, 1, 5), "bold", None))

    def test_mark_and_note(self):
        self.assertEqual(self.act(self.two, "mark", ROOT, 0, 12, "bold", "on"), ("mark", (1, 1, 0), (2, 1, 1), "bold", "on"))
        self.assertEqual(self.act(self.two, "mark", ROOT, 11, 1, "bold", None), ("mark", (2, 1, 1), (2, 1, 1), "bold", None))
        self.assertEqual(self.act(self.two, "note", ROOT, 0, 9, "so"), ("note", (1, 1, 0), (1, 3, 0), "so"))
        self.assertEqual(self.act(self.two, "note", self.block, 0, 2, "a b"), ("note", (1, 4, 0), (1, 4, 1), "a b"))
        deed = self.two.mark(block=ROOT, at=1, many=2, name="link", worth="on")
        self.assertEqual(deed[3], ("mark", (1, 1, 1), (1, 1, 2), "link", "on"))
        deed = self.two.note(block=ROOT, at=1, many=2, text="hm")
        self.assertEqual(deed[3], ("note", (1, 1, 1), (1, 1, 2), "hm"))

    def test_places_that_are_not_there(self):
        for word, others in (("erase", ()), ("mark", ("bold", "on")), ("note", ("so",))):
            for at in (-1, 12, 13, 10 ** 9):
                for many in (0, 1, 99):
                    self.assert_no_number(at, self.two, word, ROOT, at, many, *others)
            self.assert_no_number(0, self.two, word, self.empty, 0, 1, *others)

    def test_manies_that_are_wrong(self):
        for word, others in (("erase", ()), ("mark", ("bold", "on")), ("note", ("so",))):
            for at, many in ((0, 0), (0, -1), (0, 13), (11, 2), (5, 8), (5, 10 ** 9), (11, 0)):
                self.assert_no_number(many, self.two, word, ROOT, at, many, *others)
        self.assert_no_number(9, self.two, "erase", ROOT, 0, 9)

    def test_blocks_that_are_not_there_or_not_shown(self):
        for word, others in (("erase", ()), ("mark", ("bold", "on")), ("note", ("so",))):
            for block in NO_BLOCKS:
                self.assert_no_block(block, self.two, word, block, 99, 99, *others)
        self.one.undo(self.block[1])
        for word, others in (("erase", ()), ("mark", ("bold", "on")), ("note", ("so",))):
            self.assert_no_block(self.block, self.one, word, self.block, 0, 1, *others)


class Blocks(Doings):
    def test_block(self):
        self.assertEqual(self.act(self.two, "block", ROOT, None), ("block", ROOT, None))
        self.assertEqual(self.act(self.two, "block", self.block, self.empty), ("block", self.block, self.empty))
        self.assertEqual(self.act(self.two, "block", ROOT, ROOT), ("block", ROOT, ROOT))
        self.assertEqual(self.two.block(parent=self.empty, behind=self.block)[3], ("block", self.empty, self.block))

    def test_move_and_drop(self):
        self.assertEqual(self.act(self.two, "move", self.empty, ROOT, self.block), ("move", self.empty, ROOT, self.block))
        self.assertEqual(self.act(self.two, "move", self.block, self.block, None), ("move", self.block, self.block, None))
        self.assertEqual(self.act(self.two, "drop", self.empty), ("drop", self.empty))
        self.assertEqual(self.two.move(block=self.block, parent=ROOT, behind=None)[3], ("move", self.block, ROOT, None))
        self.assertEqual(self.two.drop(block=self.block)[3], ("drop", self.block))

    def test_blocks_that_are_not_shown_will_do(self):
        self.one.undo(self.empty[1])
        self.one.drop(self.block)
        for word, args in (("block", (self.empty, self.block)), ("move", (self.empty, self.block, None)),
                           ("move", (self.block, self.empty, self.empty)), ("drop", (self.empty,)), ("drop", (self.block,))):
            self.assertEqual(self.act(self.one, word, *args), (word,) + args)

    def test_the_first_block_that_is_not_there(self):
        for block in NO_BLOCKS:
            self.assert_no_block(block, self.two, "block", block, (3, 7))
            self.assert_no_block(block, self.two, "block", ROOT, block)
            self.assert_no_block(block, self.two, "block", self.block, block)
            self.assert_no_block(block, self.two, "move", block, (3, 7), (3, 8))
            self.assert_no_block(block, self.two, "move", self.block, block, (3, 8))
            self.assert_no_block(block, self.two, "move", self.block, ROOT, block)
            self.assert_no_block(block, self.two, "drop", block)

    def test_the_root_is_not_moved_or_dropped(self):
        self.assert_no_block(ROOT, self.two, "move", ROOT, self.block, None)
        self.assert_no_block(ROOT, self.two, "move", ROOT, (3, 7), (3, 8))
        self.assert_no_block(ROOT, self.two, "drop", ROOT)


class Turns(Doings):
    def test_undo_and_redo(self):
        self.assertEqual(self.act(self.two, "undo", 1), ("undo", 1))
        self.assertEqual(self.two.text(ROOT), "abcdefghij")
        self.assertEqual(self.act(self.two, "redo", 1), ("redo", 1))
        self.assertEqual(self.two.text(ROOT), "abcdefghijxy")
        self.assertEqual(self.act(self.two, "redo", 1), ("redo", 1))
        self.assertEqual(self.two.undo(n=1)[3], ("undo", 1))
        self.assertEqual(self.two.redo(n=1)[3], ("redo", 1))

    def test_each_deed_that_can_be_undone(self):
        for word, args in DOINGS[:7]:
            n = getattr(self.two, word)(*args)[1]
            self.assertEqual(self.act(self.two, "undo", n), ("undo", n))

    def test_numbers_of_which_there_is_nothing(self):
        for n in (0, -1, 2, 3, 10 ** 9):
            for word in ("undo", "redo"):
                self.assert_no_number(n, self.two, word, n)
        self.assert_no_number(1, Desk(3), "undo", 1)

    def test_deeds_that_can_not_be_undone(self):
        self.one.undo(1)
        self.one.redo(1)
        for word, args in (("bar", (3,)), ("let", (3,)), ("settle", ()), ("say", ())):
            getattr(self.one, word)(*args)
        for n in range(6, 12):
            for word in ("undo", "redo"):
                self.assert_no_number(n, self.one, word, n)

    def test_deeds_that_are_settled(self):
        self.two.write(ROOT, 0, "q")
        self.one.settle()
        meet(self.one, self.two)
        for word in ("undo", "redo"):
            self.assert_no_number(1, self.two, word, 1)
            for n in range(1, 6):
                self.assert_no_number(n, self.one, word, n)
        # the settle did not know of the second one
        self.assertEqual(self.act(self.two, "undo", 2), ("undo", 2))

    def test_settles_that_are_not_known_here(self):
        self.one.settle()
        self.assertEqual(self.act(self.two, "undo", 1), ("undo", 1))


class Owners(Doings):
    def test_the_owner(self):
        for hand in (2, 3, 4):
            self.assertEqual(self.act(self.one, "bar", hand), ("bar", hand))
            self.assertEqual(self.act(self.one, "let", hand), ("let", hand))
        self.assertEqual(self.act(self.one, "settle"), ("settle",))
        self.assertEqual(self.one.bar(hand=3)[3], ("bar", 3))
        self.assertEqual(self.one.let(hand=3)[3], ("let", 3))

    def test_wrong_hands(self):
        for hand in (1, 0, 5, -2, 10 ** 9):
            self.assert_no_number(hand, self.one, "bar", hand)
            self.assert_no_number(hand, self.one, "let", hand)

    def test_others(self):
        for desk in (self.two, Desk(3), Desk(4)):
            for word, args in (("bar", (3,)), ("let", (3,)), ("bar", (1,)), ("let", (9,)), ("settle", ())):
                self.assert_refused(NotAllowed, "word", word, desk, word, *args)

    def test_say(self):
        for desk in (self.one, self.two, Desk(3)):
            self.assertEqual(self.act(desk, "say"), ("say",))


class Barred(Doings):
    def test_a_hand_that_is_barred(self):
        self.one.bar(2)
        self.assertEqual(self.act(self.two, "write", ROOT, 0, "q"), ("write", ROOT, None, (1, 1, 0), "q"))
        meet(self.one, self.two)
        for word, args in DOINGS:
            self.assert_refused(NotAllowed, "word", word, self.two, word, *args)
        self.assertEqual(self.act(self.two, "say"), ("say",))
        self.one.let(2)
        meet(self.one, self.two)
        for word, args in DOINGS:
            getattr(self.two, word)(*args)

    def test_the_last_of_bars_and_lets_tells(self):
        for word in ("bar", "let", "bar", "bar", "let", "let", "bar"):
            getattr(self.one, word)(2)
            self.one.bar(3)
            meet(self.one, self.two)
            if word == "bar":
                self.assert_refused(NotAllowed, "word", "drop", self.two, "drop", self.block)
            else:
                self.two.mark(ROOT, 0, 1, "bold", "on")

    def test_the_sequence_of_errors(self):
        self.two.undo(1)
        self.one.bar(2)
        self.two.take((2, 3, (9, 2, 0, 0), ("say",)))
        meet(self.one, self.two)
        wrong = (("write", ((4, 1), -1, "x")), ("erase", ((4, 1), -1, 0)), ("mark", ((4, 1), -1, 0, "bold", "on")),
                 ("note", ((4, 1), -1, 0, "so")), ("block", ((4, 1), (4, 2))), ("move", (ROOT, (4, 1), (4, 2))), ("drop", (ROOT,)),
                 ("undo", (0,)), ("redo", (9,)))
        for word, args in wrong:
            self.assert_refused(NotAllowed, "word", word, self.two, word, *args)
        self.one.let(2)
        meet(self.one, self.two)
        for word, args in wrong[:7]:
            self.assert_no_block(args[0], self.two, word, *args)
        for word, args in wrong[:4]:
            self.assert_no_number(-1, self.two, word, ROOT, *args[1:])
        for word, args in wrong[7:]:
            self.assert_no_number(args[0], self.two, word, *args)
        # the unlike deed that waits is told behind all others
        clock = self.two.clock()
        acts = (("write", ROOT, None, (1, 1, 0), "x"), ("erase", ((1, 1, 0),)), ("mark", (1, 1, 0), (1, 1, 0), "bold", "on"),
                ("note", (1, 1, 0), (1, 1, 0), "so"), ("block", ROOT, None), ("move", (1, 2), ROOT, None), ("drop", (1, 2)),
                ("undo", 1), ("redo", 1))
        for (word, args), act in zip(DOINGS, acts):
            self.assert_refused(Unlike, "deed", (2, 3, clock, act), self.two, word, *args)
        self.assert_refused(Unlike, "deed", (2, 3, clock, ("say",)), self.two, "say")
        self.assertEqual(self.two.waiting(), ((2, 3),))

    def test_unlike_at_the_owners_desk(self):
        self.one.take((1, 6, (5, 7, 0, 0), ("say",)))
        clock = self.one.clock()
        for word, args in (("bar", (2,)), ("let", (2,)), ("settle", ())):
            self.assert_refused(Unlike, "deed", (1, 6, clock, (word,) + args), self.one, word, *args)
        self.assert_no_number(1, self.one, "bar", 1)


class Along(Doings):
    def test_deeds_that_waited_for_a_doing_come_with_it(self):
        clock = self.one.clock()
        # another desk of hand 1 did the same say; hand 3 has seen it, and hand 4 the deed of hand 3
        own = (1, clock[0] + 1, clock, ("say",))
        three = (3, 1, (clock[0] + 1,) + clock[1:], ("write", ROOT, None, (1, 1, 0), "q"))
        four = (4, 1, three[2][:2] + (1, 0), ("write", ROOT, (3, 1, 0), (1, 1, 0), "r"))
        wrong = (2, 2, three[2], ("settle",))
        for deed in (four, three, wrong):
            self.assertEqual(self.one.take(deed), ())
        self.assertEqual(self.one.say(), own)
        self.assertEqual(self.one.text(ROOT), "qrabcdefghijxy")
        self.assertEqual(self.one.clock(), (clock[0] + 1, 1, 1, 1))
        self.assertEqual(self.one.waiting(), ())

    def test_own_deeds_that_waited_for_a_doing(self):
        clock = self.two.clock()
        later = (2, 3, (clock[0], 2) + clock[2:], ("erase", ((2, 2, 0),)))
        self.two.take(later)
        self.two.write(ROOT, 0, "q")
        self.assertEqual(self.two.text(ROOT), "abcdefghijxy")
        self.assertEqual(self.two.clock(), (5, 3, 0, 0))
        self.assertEqual(self.two.say()[1], 4)

    def test_the_deeds_fit_elsewhere(self):
        other = Desk(4)
        for word, args in DOINGS:
            getattr(self.two, word)(*args)
        self.one.settle()
        meet(self.one, self.two, other)
        self.assertEqual(other.deeds(), self.two.deeds())
        self.assertEqual(other.document(), self.one.document())
        self.assertEqual(other.lacking(NOUGHT), self.one.deeds())


if __name__ == "__main__":
    unittest.main()
