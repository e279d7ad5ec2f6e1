"""Promise [31]: logs."""

import random
import unittest

from quillmoot import logs
from quillmoot.deedtext import deed_text
from quillmoot.errors import InvalidNumber, InvalidText, NoBlock, NotAllowed, Undefined, Unlike
from quillmoot.histories import clock_of
from quillmoot.documents import document_text
from quillmoot.logs import Log, replayed
from quillmoot.nets import Net
from tests.line_forms import DONE, FORMS, WRONG, fault_of, is_right, random_line, spoilt_line
from tests.makers import NOUGHT

ROOT = (0, 0)
HANDS = (1, 2, 3, 4)


def state_of(log):
    """All that is to be alike between a log and what is replayed."""
    desks = [log.net.desk(hand) for hand in HANDS]
    return (log.net.messages(), tuple((desk.clock(), desk.waiting(), desk.document()) for desk in desks))


def whole_state(log):
    return state_of(log) + (log.lines,)


def run_all(log, *lines):
    """The answers to these lines."""
    return [log.run(line) for line in lines]


class Logs(unittest.TestCase):
    def setUp(self):
        self.log = Log()

    def assert_refused(self, error, field, value, line):
        before = whole_state(self.log)
        with self.assertRaises(error) as caught:
            self.log.run(line)
        self.assertEqual(getattr(caught.exception, field), value)
        self.assertEqual(whole_state(self.log), before)

    def assert_wrong(self, line, at):
        self.assertEqual(fault_of(line), at, line)
        self.assert_refused(InvalidText, "at", at, line)
        with self.assertRaises(InvalidText) as caught:
            self.log.run(line)
        self.assertEqual(caught.exception.text, line)


class Anew(Logs):
    def test_a_new_log(self):
        self.assertIsInstance(self.log.net, Net)
        self.assertEqual(self.log.lines, ())
        self.assertEqual(state_of(self.log), ((), ((NOUGHT, (), ((ROOT, 0, (), ()),)),) * 4))
        self.assertIsNot(Log().net, self.log.net)

    def test_defined_in_its_module(self):
        self.assertEqual((Log.__module__, replayed.__module__), ("quillmoot.logs", "quillmoot.logs"))
        self.assertIn("run", vars(Log))
        self.assertEqual(logs.Log, Log)


class Doings(Logs):
    def test_each_doing(self):
        told = (("write 1 0.0 0 ab cd", "1.1 0.0.0.0 write 0.0 - - ab cd"),
                ("erase 1 0.0 1 2", "1.2 1.0.0.0 erase 1.1.1+1.1.2"),
                ("mark 1 0.0 0 2 bold on", "1.3 2.0.0.0 mark 1.1.0 1.1.3 bold on"),
                ("mark 1 0.0 0 1 bold -", "1.4 3.0.0.0 mark 1.1.0 1.1.0 bold -"),
                ("note 1 0.0 1 1 so  so ", "1.5 4.0.0.0 note 1.1.3 1.1.3 so  so "),
                ("block 1 0.0 -", "1.6 5.0.0.0 block 0.0 -"),
                ("block 1 0.0 1.6", "1.7 6.0.0.0 block 0.0 1.6"),
                ("move 1 1.7 1.6 -", "1.8 7.0.0.0 move 1.7 1.6 -"),
                ("move 1 1.7 0.0 1.6", "1.9 8.0.0.0 move 1.7 0.0 1.6"),
                ("drop 1 1.7", "1.10 9.0.0.0 drop 1.7"),
                ("undo 1 2", "1.11 10.0.0.0 undo 2"),
                ("redo 1 2", "1.12 11.0.0.0 redo 2"),
                ("bar 1 2", "1.13 12.0.0.0 bar 2"),
                ("let 1 2", "1.14 13.0.0.0 let 2"),
                ("settle 1", "1.15 14.0.0.0 settle"),
                ("say 1", "1.16 15.0.0.0 say"))
        for number, (line, answer) in enumerate(told, start=1):
            self.assertEqual(self.log.run(line), answer)
            self.assertEqual(self.log.net.desk(1).clock(), (number, 0, 0, 0))
            # and it is posted
            self.assertEqual(self.log.net.messages()[-3:], tuple((hand, (1, number)) for hand in (2, 3, 4)))
        self.assertEqual(self.log.lines, tuple(line for line, _ in told))
        self.assertEqual(self.log.run(line="show 1"), "acd\n  ")
        self.assertEqual([deed_text(deed) for deed in self.log.net.desk(1).deeds()], [answer for _, answer in told])

    def test_at_the_desk_of_the_first_hand(self):
        for hand in "1234":
            self.log.run(f"write {hand} 0.0 0 x")
        self.assertEqual([self.log.net.desk(hand).clock()[hand - 1] for hand in HANDS], [1] * 4)
        self.assertEqual(self.log.net.messages()[:4], ((2, (1, 1)), (3, (1, 1)), (4, (1, 1)), (1, (2, 1))))

    def test_texts_with_blanks(self):
        for text in (" ", "  ", " a", "a ", " a b ", "        ", "a  b"):
            self.assertEqual(self.log.run(f"write 2 0.0 0 {text}")[-len(text) - 1:], " " + text)
            self.assertEqual(self.log.run(f"note 2 0.0 0 1 {text}")[-len(text) - 1:], " " + text)

    def test_words_of_acts_as_texts(self):
        self.assertEqual(self.log.run("write 3 0.0 0 write"), "3.1 0.0.0.0 write 0.0 - - write")
        self.assertEqual(self.log.run("mark 3 0.0 0 5 mark mark"), "3.2 0.0.1.0 mark 3.1.0 3.1.4 mark mark")

    def test_deeds_that_waited_come_with_a_doing(self):
        self.log.net.desk(1).take((2, 1, (1, 0, 0, 0), ("say",)))
        self.assertEqual(self.log.run("say 1"), "1.1 0.0.0.0 say")
        self.assertEqual(self.log.net.desk(1).clock(), (1, 1, 0, 0))
        self.assertEqual(len(self.log.net.messages()), 3)


class Nets(Logs):
    def test_messages(self):
        run_all(self.log, "say 1", "say 2")
        self.assertEqual(self.log.run("deliver 0"), "yes")
        self.assertEqual(self.log.run("double 0"), "")
        self.assertEqual(self.log.net.messages(), ((3, (1, 1)), (4, (1, 1)), (1, (2, 1)), (3, (2, 1)), (4, (2, 1)), (3, (1, 1))))
        self.assertEqual(self.log.run("lose 1"), "")
        self.assertEqual(self.log.run("put_off 0"), "")
        self.assertEqual(self.log.net.messages(), ((1, (2, 1)), (3, (2, 1)), (4, (2, 1)), (3, (1, 1)), (3, (1, 1))))
        self.assertEqual([self.log.net.desk(hand).clock() for hand in HANDS], [(1, 0, 0, 0), (1, 1, 0, 0), NOUGHT, NOUGHT])

    def test_parts(self):
        run_all(self.log, "say 1", "say 2")
        self.assertEqual(run_all(self.log, "divide 0 999999 0 7", "deliver 0", "deliver 1", "meet 1 2", "meet 3 1"), ["", "no", "yes", "no", "yes"])
        self.assertEqual(run_all(self.log, "unite", "deliver 0", "meet 1 2", "meet 2 2"), ["", "yes", "yes", "yes"])

    def test_show(self):
        run_all(self.log, "write 1 0.0 0 top", "block 1 0.0 -", "write 1 1.2 0 in it", "block 1 1.2 -")
        self.assertEqual(self.log.run("show 1"), "top\n  in it\n    ")
        self.assertEqual(self.log.run("show 2"), "")
        run_all(self.log, "meet 1 2")
        self.assertEqual(self.log.run("show 2"), document_text(self.log.net.desk(1).deeds()))
        self.assertEqual(self.log.lines[-3:], ("show 2", "meet 1 2", "show 2"))


class Fresh(Logs):
    def test_what_waited_is_lost(self):
        run_all(self.log, "say 1", "say 1", "write 2 0.0 0 ab", "deliver 3")
        desk = self.log.net.desk(2)
        self.assertEqual(desk.waiting(), ((1, 2),))
        self.assertEqual(self.log.run("fresh 2"), "")
        fresh = self.log.net.desk(2)
        self.assertIsNot(fresh, desk)
        self.assertEqual((fresh.hand, fresh.clock(), fresh.waiting(), fresh.text(ROOT)), (2, (0, 1, 0, 0), (), "ab"))
        self.assertRaises(Undefined, fresh.deeds)
        self.assertEqual(desk.waiting(), ((1, 2),))
        # the desks of the others stay
        self.assertEqual(self.log.net.desk(1).deeds()[1], (1, 2, (1, 0, 0, 0), ("say",)))

    def test_fresh_desks_go_on(self):
        lines = ["write 1 0.0 0 abc", "meet 1 2", "erase 2 0.0 1 1", "meet 1 2", "meet 2 3", "meet 3 4", "say 3", "say 4"]
        lines += ["settle 1"] + ["meet 1 2", "meet 2 3", "meet 3 4"] * 2 + ["say 2", "say 3", "say 4", "say 1"]
        run_all(self.log, *lines)
        for hand in "1234" * 2:
            run_all(self.log, f"fresh {hand}", f"write {hand} 0.0 2 x", *("meet 1 2", "meet 2 3", "meet 3 4") * 4)
            self.assertIs(self.log.net.is_calm(), True)
        self.assertEqual(self.log.run("show 3"), "acxxxxxxxx")
        self.assertEqual(state_of(replayed(self.log.lines)), state_of(self.log))

    def test_fresh_at_the_beginning(self):
        run_all(self.log, "fresh 4", "fresh 4", "say 4", "fresh 4")
        self.assertEqual(self.log.net.desk(4).clock(), (0, 0, 0, 1))
        self.assertEqual(self.log.lines, ("fresh 4", "fresh 4", "say 4", "fresh 4"))


class Wrong(Logs):
    """The place of the first fault."""

    def setUp(self):
        Logs.setUp(self)
        run_all(self.log, "write 1 0.0 0 abc", "block 1 0.0 -")

    def test_first_words(self):
        for line in ("", " ", " say 1", "sing 1", "Say 1", "SAY 1", "say1", "says 1", "sa", "1", "say\t1", "say\n1", "\nsay 1", "putoff 0",
                     "put off 0", "desk 1", "clock 1", "post 1", "take 1", "-"):
            self.assert_wrong(line, 0)

    def test_too_few_and_too_many_words(self):
        right = {"write": "1 0.0 0 x", "erase": "1 0.0 0 1", "mark": "1 0.0 0 1 bold -", "note": "1 0.0 0 1 so", "block": "1 0.0 -",
                 "move": "1 1.2 0.0 -", "drop": "1 1.2", "undo": "1 1", "redo": "1 1", "bar": "1 2", "let": "1 2", "settle": "1", "say": "1",
                 "deliver": "0", "double": "0", "lose": "0", "put_off": "0", "divide": "0 0 1 1", "unite": "", "meet": "1 2", "fresh": "1",
                 "show": "1"}
        self.assertEqual(set(right), set(FORMS))
        for word, told in right.items():
            words = [word] + told.split()
            for many in range(1, len(words)):
                line = " ".join(words[:many])
                self.assert_wrong(line, len(line))
                # an empty word, and one that is missing
                self.assert_wrong(line + " ", len(line) + 1)
            line = " ".join(words)
            if word not in ("write", "note"):
                for more in ("", "1", "x", "-"):
                    self.assert_wrong(line + " " + more, len(line) + 1)
            for at in range(1, len(words)):
                ahead = len(" ".join(words[:at])) + 1
                self.assert_wrong(" ".join(words[:at] + ["?"] + words[at + 1:]), ahead)
                if word not in ("write", "note") or at < len(words) - 1:
                    # of two blanks ahead of a text the second one is of the text
                    self.assert_wrong(" ".join(words[:at] + [""] + words[at:]), ahead)
            self.log.run(line)

    def test_hands(self):
        for hand in ("0", "5", "9", "12", "01", "-", "a", "1.1", "-1", "+1", "1\t", "1\n"):
            self.assert_wrong(f"say {hand}", 4)
            self.assert_wrong(f"write {hand} 0.0 0 x", 6)
            self.assert_wrong(f"bar 1 {hand}", 6)
            self.assert_wrong(f"meet 1 {hand}", 7)
            self.assert_wrong(f"meet {hand} 0", 5)
            self.assert_wrong(f"fresh {hand}", 6)
            self.assert_wrong(f"show {hand}", 5)

    def test_blocks(self):
        for block in ("0", "1", "0.1", "1.0", "1.01", "01.1", "5.1", "1.1234567", "1.1.1", "1,1", "1.", ".1", "0.00", "00.0", "-", "-1.1", "1.-1",
                      "a.b", "1.1\n"):
            self.assert_wrong(f"drop 1 {block}", 7)
            self.assert_wrong(f"write 1 {block} 0 x", 8)
            self.assert_wrong(f"block 1 {block} -", 8)
            self.assert_wrong(f"move 1 1.2 {block} -", 11)
            if block != "-":
                self.assert_wrong(f"block 1 0.0 {block}", 12)
                self.assert_wrong(f"move 1 1.2 0.0 {block}", 15)
        for block in ("--", "- ", "-0.0"):
            self.assertIsNotNone(fault_of(f"block 1 0.0 {block}"))

    def test_numbers(self):
        for number in ("-1", "+1", "00", "01", "1234567", "0000000", "1.0", "x", "-", "1x", "x1", "1e3", "1_0", " 1", "1\t", "1\n"):
            self.assert_wrong(f"deliver {number}", 8)
            self.assert_wrong(f"undo 1 {number}", 7)
            self.assert_wrong(f"erase 1 0.0 {number} 1", 12)
            self.assert_wrong(f"divide 1 1 {number} 1", 11)
        self.assert_refused(InvalidNumber, "value", 999999, "deliver 999999")

    def test_words(self):
        for word in ("A", "aB", "a1", "1", "abcdefghi", "a_b", "a-", "--", "a\t", "a\n"):
            self.assert_wrong(f"mark 1 0.0 0 1 {word} on", 15)
            self.assert_wrong(f"mark 1 0.0 0 1 bold {word}", 20)
        self.assert_wrong("mark 1 0.0 0 1 - on", 15)
        self.log.run("mark 1 0.0 0 1 abcdefgh abcdefgh")

    def test_texts(self):
        for text in ("", "A", "aB", "abcdefghi", "         ", "a\t", "\n", "a\n", "a1", "-", "a.b", "abcd EFG"):
            self.assert_wrong(f"write 1 0.0 0 {text}", 14)
            self.assert_wrong(f"note 1 0.0 0 1 {text}", 15)
        self.log.run("write 1 0.0 0 abcdefgh")
        self.log.run("write 1 0.0 0         ")

    def test_ahead_of_all_other_errors(self):
        self.assert_refused(NotAllowed, "word", "settle", "settle 2")
        self.assert_wrong("settle 2 2", 9)
        self.assert_refused(NoBlock, "block", (4, 1), "drop 2 4.1")
        self.assert_wrong("write 2 4.1 9 A", 14)

    def test_by_dice(self):
        dice = random.Random(310)
        faults = 0
        for _ in range(4000):
            line = spoilt_line(dice, random_line(dice))
            at = fault_of(line)
            self.assertIs(at is None, is_right(line))
            if at is not None:
                self.assert_wrong(line, at)
                faults += 1
        self.assertGreater(faults, 2000)
        for word, kinds in FORMS.items():
            for k in range(len(kinds)):
                for wrong in WRONG:
                    words = [{"H": "1", "B": "0.0", "b": "-", "N": "0", "W": "a", "w": "-", "T": "a"}[kind] for kind in kinds]
                    line = " ".join([word] + words[:k] + [wrong] + words[k + 1:])
                    if fault_of(line) is not None:
                        self.assert_wrong(line, fault_of(line))


class Errors(Logs):
    """Errors of the calls behind right lines."""

    def test_of_doings(self):
        run_all(self.log, "write 1 0.0 0 abc", "bar 1 2", "meet 1 2", "block 1 0.0 -")
        self.assert_refused(NotAllowed, "word", "write", "write 2 0.0 9 x")
        self.assert_refused(NotAllowed, "word", "undo", "undo 2 1")
        self.assert_refused(NotAllowed, "word", "bar", "bar 3 2")
        self.assert_refused(NoBlock, "block", (1, 2), "write 1 1.2 0 x")
        self.assert_refused(NoBlock, "block", ROOT, "drop 1 0.0")
        self.assert_refused(NoBlock, "block", ROOT, "move 1 0.0 4.1 4.2")
        self.assert_refused(NoBlock, "block", (4, 999999), "move 1 1.3 0.0 4.999999")
        self.assert_refused(InvalidNumber, "value", 4, "write 1 0.0 4 x")
        self.assert_refused(InvalidNumber, "value", 3, "erase 1 0.0 3 0")
        self.assert_refused(InvalidNumber, "value", 0, "erase 1 0.0 2 0")
        self.assert_refused(InvalidNumber, "value", 9, "mark 1 0.0 2 9 bold -")
        self.assert_refused(InvalidNumber, "value", 0, "undo 1 0")
        self.assert_refused(InvalidNumber, "value", 2, "redo 1 2")
        self.assert_refused(InvalidNumber, "value", 1, "let 1 1")
        self.assertEqual(len(self.log.lines), 4)

    def test_an_unlike_deed_that_waits(self):
        self.log.net.desk(3).take((3, 1, (9, 0, 0, 0), ("say",)))
        self.assert_refused(Unlike, "deed", (3, 1, NOUGHT, ("say",)), "say 3")

    def test_of_nets(self):
        for word in ("deliver", "double", "lose", "put_off"):
            self.assert_refused(InvalidNumber, "value", 0, f"{word} 0")
        run_all(self.log, "say 1")
        for word in ("deliver", "double", "lose", "put_off"):
            self.assert_refused(InvalidNumber, "value", 3, f"{word} 3")
        self.assertEqual(self.log.lines, ("say 1",))


class Replayed(Logs):
    def random_line(self, dice, log):
        """A line that mostly does something at this log."""
        word = dice.choice(("write",) * 8 + tuple(DONE) + ("settle", "say", "say", "erase", "erase") + ("deliver",) * 12 + ("meet",) * 6
                           + ("double", "lose", "put_off", "put_off", "divide", "unite", "unite", "fresh", "fresh", "show"))
        hand = dice.choice(HANDS) if word not in ("bar", "let", "settle") or dice.random() < 0.1 else 1
        desk = log.net.desk(hand)
        pages = desk.document()
        block = dice.choice(pages)[0]
        length = len(desk.text(block))
        messages = max(1, len(log.net.messages()))
        at = dice.randint(0, length)
        told = {"T": "".join(dice.choice("abc ") for _ in range(dice.randint(1, 3))), "W": dice.choice(("bold", "link")),
                "w": dice.choice(("on", "-")), "b": dice.choice(["-"] + [f"{page[0][0]}.{page[0][1]}" for page in pages])}
        words = [word]
        for k, kind in enumerate(FORMS[word]):
            if kind == "H":
                words.append(str(hand if k == 0 else dice.choice(HANDS)))
            elif kind == "B":
                words.append("{}.{}".format(*(block if k == 1 and word != "move" else dice.choice(pages)[0])))
            elif kind == "N" and word in ("deliver", "double", "lose", "put_off"):
                words.append(str(dice.randrange(messages)))
            elif kind == "N":
                words.append(str(at if k == 2 else dice.randint(1, max(1, min(3, length - at)))))
            else:
                words.append(told[kind])
        return " ".join(words)

    def test_beside_the_first_log(self):
        dice = random.Random(31)
        kept = refused = 0
        for _ in range(25):
            log = Log()
            kept_lines = []
            for _ in range(60):
                if sum(map(max, zip(*(log.net.desk(hand).clock() for hand in HANDS)))) > 20:
                    line = dice.choice(("deliver 0", "meet 1 2", "meet 2 3", "meet 3 4", "put_off 0", "fresh 1", "fresh 3"))
                else:
                    line = self.random_line(dice, log)
                self.assertIsNone(fault_of(line), line)
                before = whole_state(log)
                try:
                    log.run(line)
                    kept_lines.append(line)
                except ValueError as error:
                    self.assertNotIsInstance(error, InvalidText)
                    self.assertEqual(whole_state(log), before)
                    refused += 1
                self.assertEqual(log.lines, tuple(kept_lines))
            kept += len(log.lines)
            other = replayed(lines=log.lines)
            self.assertEqual(whole_state(other), whole_state(log))
            # and with both going on
            for _ in range(10):
                line = self.random_line(dice, log)
                answers = []
                for each in (log, other):
                    try:
                        answers.append(each.run(line))
                    except ValueError as error:
                        answers.append((type(error), vars(error)))
                self.assertEqual(answers[0], answers[1])
                self.assertEqual(whole_state(other), whole_state(log))
        self.assertGreater(kept, 900)
        self.assertGreater(refused, 100)

    def test_behind_fresh_with_something_waiting(self):
        lines = ["say 1", "say 1", "say 3", "deliver 3", "deliver 3", "deliver 3", "fresh 2", "fresh 3"]
        self.assertEqual(run_all(self.log, *lines), ["1.1 0.0.0.0 say", "1.2 1.0.0.0 say", "3.1 0.0.0.0 say", "yes", "yes", "yes", "", ""])
        # of two and three it is lost what waited, of four it is not
        self.assertEqual([self.log.net.desk(hand).waiting() for hand in HANDS], [(), (), (), ((1, 2),)])
        other = replayed(lines)
        self.assertEqual(whole_state(other), whole_state(self.log))
        for line in ("deliver 0", "write 2 0.0 0 a", "deliver 0", "deliver 0", "fresh 4", "deliver 1", "show 2"):
            self.assertEqual(self.log.run(line), other.run(line))
            self.assertEqual(whole_state(other), whole_state(self.log))

    def test_lists_and_tuples_and_none(self):
        self.assertEqual(whole_state(replayed(())), whole_state(Log()))
        lines = ["say 1", "write 2 0.0 0 a"]
        log = replayed(lines)
        self.assertIsInstance(log, Log)
        self.assertEqual(log.lines, ("say 1", "write 2 0.0 0 a"))
        lines.append("say 3")
        self.assertEqual(len(log.lines), 2)
        self.assertEqual(clock_of(log.net.desk(2).deeds()), (0, 1, 0, 0))

    def test_a_wrong_line(self):
        for lines, error, field, value in ((("say 1", "say  1", "sing"), InvalidText, "at", 4), (["say 1", "settle 2"], NotAllowed, "word", "settle"),
                                           (("deliver 0",), InvalidNumber, "value", 0), (("say 1", "drop 1 1.1"), NoBlock, "block", (1, 1))):
            with self.assertRaises(error) as caught:
                replayed(lines)
            self.assertEqual(getattr(caught.exception, field), value)


if __name__ == "__main__":
    unittest.main()
