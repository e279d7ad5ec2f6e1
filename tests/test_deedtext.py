"""Promise [7]: deeds as texts, and back."""

import random
import unittest

from quillmoot import deedtext
from quillmoot.deeds import is_deed
from quillmoot.deedtext import deed_text, read_deed
from quillmoot.errors import InvalidText
from tests.deed_samples import ACTS, BIG, deed_of, right_acts
from tests.grammar import wrong_at

# deeds of each word with their texts
TEXTS = (
    ((1, 1, (0, 0, 0, 0), ("write", (0, 0), None, None, "ac")), "1.1 0.0.0.0 write 0.0 - - ac"),
    ((1, 2, (1, 0, 0, 0), ("write", (0, 0), (1, 1, 0), (1, 1, 1), "b")), "1.2 1.0.0.0 write 0.0 1.1.0 1.1.1 b"),
    ((4, 12, (1, 20, 300, 11), ("write", (3, 2), None, (2, 4, 7), " a  b ")), "4.12 1.20.300.11 write 3.2 - 2.4.7  a  b "),
    ((2, 1, (0, 0, 0, 0), ("write", (0, 0), (1, 1, 0), None, "        ")), "2.1 0.0.0.0 write 0.0 1.1.0 -         "),
    ((3, 1, (9, 9, 0, 9), ("erase", ((1, 1, 0),))), "3.1 9.9.0.9 erase 1.1.0"),
    ((3, 1, (9, 9, 0, 9), ("erase", ((1, 1, 0), (1, 1, 10), (1, 10, 0), (2, 1, 0)))),
     "3.1 9.9.0.9 erase 1.1.0+1.1.10+1.10.0+2.1.0"),
    ((2, 3, (5, 2, 0, 0), ("mark", (1, 1, 0), (2, 1, 3), "bold", "on")), "2.3 5.2.0.0 mark 1.1.0 2.1.3 bold on"),
    ((2, 3, (5, 2, 0, 0), ("mark", (1, 1, 0), (1, 1, 0), "abcdefgh", None)), "2.3 5.2.0.0 mark 1.1.0 1.1.0 abcdefgh -"),
    ((2, 3, (5, 2, 0, 0), ("note", (2, 1, 3), (1, 1, 0), "is it so")), "2.3 5.2.0.0 note 2.1.3 1.1.0 is it so"),
    ((1, 1, (0, 0, 0, 0), ("block", (0, 0), None)), "1.1 0.0.0.0 block 0.0 -"),
    ((1, 3, (2, 0, 0, 1), ("block", (1, 2), (4, 1))), "1.3 2.0.0.1 block 1.2 4.1"),
    ((1, 3, (2, 0, 0, 1), ("move", (1, 2), (0, 0), None)), "1.3 2.0.0.1 move 1.2 0.0 -"),
    ((1, 3, (2, 0, 0, 1), ("move", (1, 2), (2, 3), (0, 0))), "1.3 2.0.0.1 move 1.2 2.3 0.0"),
    ((1, 3, (2, 0, 0, 1), ("drop", (4, 1))), "1.3 2.0.0.1 drop 4.1"),
    ((4, 40, (0, 0, 0, 39), ("undo", 39)), "4.40 0.0.0.39 undo 39"),
    ((4, 999999, (0, 0, 0, 999998), ("redo", 100000)), "4.999999 0.0.0.999998 redo 100000"),
    ((1, 1, (0, 7, 0, 0), ("bar", 2)), "1.1 0.7.0.0 bar 2"),
    ((1, 1, (0, 7, 0, 0), ("let", 4)), "1.1 0.7.0.0 let 4"),
    ((1, 1, (0, 0, 0, 999999), ("settle",)), "1.1 0.0.0.999999 settle"),
    ((2, 2, (0, 1, 0, 0), ("say",)), "2.2 0.1.0.0 say"),
)

# texts that can not be read, each with a bar sign where it goes wrong
WRONG = (
    "|", "|0.1 0.0.0.0 say", "|5.1 0.0.0.0 say", "|-1.1 0.0.0.0 say", "| 1.1 0.0.0.0 say", "1|1.1 0.0.0.0 say",
    "1| .1 0.0.0.0 say", "1.|0 0.0.0.0 say", "1.|01 0.0.0.0 say", "1.|", "1|", "1.| 0.0.0.0 say", "1.1|", "1.1 |",
    "1.1|.0 0.0.0.0 say", "1.123456|7 123455.0.0.0 say", "1.1|\t0.0.0.0 say",
    # clocks
    "1.1 0.0.0| say", "1.1 0.0.0.0|.0 say", "1.1 0.0.0|", "1.1 0.0.0.|", "1.1 0.0.0.0|", "1.1 0.0.0.0 |", "1.1 0|0.0.0.0 say",
    "1.1 0.0|1.0.0 say", "1.1 0.0.|-1.0 say", "1.1 0.123456|7.0.0 say", "1.1 0.0.0.123456|7 say",
    "1.1 | 0.0.0.0 say", "1.1 0.0.0.0 | say", "1.1 0.|.0.0 say", "1.1 0.0.0.0|",
    # words
    "1.1 0.0.0.0 |Say", "1.1 0.0.0.0 s|Ay", "1.1 0.0.0.0 sa|Y", "1.1 0.0.0.0 say|s", "1.1 0.0.0.0 say| ", "1.1 0.0.0.0 sa|",
    "1.1 0.0.0.0 s|", "1.1 0.0.0.0 sa| ", "1.1 0.0.0.0 se|y", "1.1 0.0.0.0 settle| 1", "1.1 0.0.0.0 settl|", "1.1 0.0.0.0 |x",
    "1.1 0.0.0.0 b|e", "1.1 0.0.0.0 ba|", "1.1 0.0.0.0 bl|a", "1.1 0.0.0.0 m|", "1.1 0.0.0.0 ma|p", "1.1 0.0.0.0 re|",
    "1.1 0.0.0.0 |0", "1.1 0.0.0.0 |-", "1.1 0.0.0.0 l|ock",
    # parts too few and too many
    "1.1 0.0.0.0 bar|", "1.1 0.0.0.0 bar |", "1.1 0.0.0.0 bar 2|2", "1.1 0.0.0.0 bar 2| ", "1.1 0.0.0.0 bar 2| 3",
    "1.1 0.0.0.0 bar |1", "1.1 0.0.0.0 let |5", "1.1 0.0.0.0 let |0", "1.1 0.0.0.0 let | 2", "1.1 0.0.0.0 drop 1.1| 1.2",
    "1.1 0.0.0.0 drop |-", "1.1 0.0.0.0 drop 0|", "1.1 0.0.0.0 drop 0.|1", "1.1 0.0.0.0 drop 0.0|.0", "1.1 0.0.0.0 drop 1.|0",
    "1.1 0.0.0.0 drop |5.1", "1.1 0.0.0.0 drop 1.1|.0", "1.1 0.0.0.0 block |-", "1.1 0.0.0.0 block 0.0|",
    "1.1 0.0.0.0 block 0.0 |", "1.1 0.0.0.0 block 0.0 -| ", "1.1 0.0.0.0 block 0.0 -|1", "1.1 0.0.0.0 block 0.0 0.|2",
    "1.1 0.0.0.0 move 1.1 0.0|", "1.1 0.0.0.0 move 1.1 |- -", "1.1 0.0.0.0 undo |0", "1.1 0.0.0.0 undo |01", "1.1 0.0.0.0 undo 1| ",
    "1.1 0.0.0.0 undo 123456|7", "1.1 0.0.0.0 redo |-1", "1.1 0.0.0.0 redo |", "1.1 0.0.0.0 redo 1|.1", "1.1 0.0.0.0 redo 1|a",
    # places and signs
    "1.1 0.0.0.0 write 0.0 1.1| - a", "1.1 0.0.0.0 write 0.0 1.1.| - a", "1.1 0.0.0.0 write 0.0 1.1.0|0 - a",
    "1.1 0.0.0.0 write 0.0 |0.0.0 - a", "1.1 0.0.0.0 write 0.0 1.1.123456|7 - a",
    "1.1 0.0.0.0 write 0.0 -|- a", "1.1 0.0.0.0 write |- - - a", "1.1 0.0.0.0 erase |-", "1.1 0.0.0.0 erase 1.1|",
    "1.1 0.0.0.0 erase 1.1.0|,1.1.1", "1.1 0.0.0.0 erase 1.1.0+|", "1.1 0.0.0.0 erase |+1.1.0", "1.1 0.0.0.0 erase |",
    "1.1 0.0.0.0 erase 1.1.0+1.1.1+1.1.2+1.1.3+1.1.4+1.1.5+1.1.6+1.1.7|+1.1.8", "1.1 0.0.0.0 erase 1.1.0| 1.1.1",
    "1.1 0.0.0.0 mark |- 1.1.0 a b", "1.1 0.0.0.0 note 1.1.0 |- a",
    # words and texts as parts
    "1.1 0.0.0.0 mark 1.1.0 1.1.0 |- a", "1.1 0.0.0.0 mark 1.1.0 1.1.0 | a", "1.1 0.0.0.0 mark 1.1.0 1.1.0 abcdefgh|i a",
    "1.1 0.0.0.0 mark 1.1.0 1.1.0 a|", "1.1 0.0.0.0 mark 1.1.0 1.1.0 a |", "1.1 0.0.0.0 mark 1.1.0 1.1.0 a abcdefgh|i",
    "1.1 0.0.0.0 mark 1.1.0 1.1.0 a -| ", "1.1 0.0.0.0 mark 1.1.0 1.1.0 a -|-", "1.1 0.0.0.0 mark 1.1.0 1.1.0 a b| ",
    "1.1 0.0.0.0 mark 1.1.0 1.1.0 |A a", "1.1 0.0.0.0 mark 1.1.0 1.1.0 a a|1", "1.1 0.0.0.0 mark 1.1.0 1.1.0 a |1",
    "1.1 0.0.0.0 write 0.0 - - |", "1.1 0.0.0.0 write 0.0 - -|", "1.1 0.0.0.0 write 0.0 - - abcdefgh|i",
    "1.1 0.0.0.0 write 0.0 - - abcdefgh| ", "1.1 0.0.0.0 write 0.0 - -         | ", "1.1 0.0.0.0 write 0.0 - - a|-",
    "1.1 0.0.0.0 write 0.0 - - |-", "1.1 0.0.0.0 write 0.0 - - |A", "1.1 0.0.0.0 note 1.1.0 1.1.0 a b|1",
    "1.1 0.0.0.0 note 1.1.0 1.1.0 a|\n", "1.1 0.0.0.0 say|\n",
    # figures and letters of other scripts
    "|\u0661.1 0.0.0.0 say", "1.|\u0661 0.0.0.0 say", "1.1 |\u0660.0.0.0 say", "1.1 0.0.0.0 |\uff53ay", "1.1 0.0.0.0 bar |\u00b2",
    "1.1 0.0.0.0 write 0.0 - - |\u00e9", "1.1 0.0.0.0 undo 1|\u0661",
    # another number of the own seen ones, behind all other faults
    "1.1 |1.0.0.0 say", "1.2 |0.0.0.0 say", "4.3 |2.2.2.3 settle", "2.7 |6.7.6.6 write 0.0 - - a", "1.1 1.0.0.0 say|x",
    "1.1 1.0.0.0 bar |1", "1.1 1.0.0.0 erase 1.1.0|x", "3.1 |0.0.1.0 drop 0.0", "1.100 |100.0.0.0 say",
    # signs that do not ascend, behind all other faults
    "1.1 0.0.0.0 erase |1.1.0+1.1.0", "1.1 0.0.0.0 erase |1.1.1+1.1.0", "1.1 0.0.0.0 erase |2.1.0+1.1.0",
    "1.1 0.0.0.0 erase |1.10.0+1.9.0", "1.1 0.0.0.0 erase |1.1.10+1.1.9", "1.1 0.0.0.0 erase |1.1.0+1.1.2+1.1.1",
    "1.1 0.0.0.0 erase 1.1.1+1.1.0| ", "1.1 0.0.0.0 erase 1.1.1+1.1.0+|", "1.1 0.0.0.0 erase 1.1.1+1.1.0+1.|0.0",
    "1.1 0.0.0.0 erase |1.2.1+1.2.1+1.2.1+1.2.1+1.2.1+1.2.1+1.2.1+1.2.1",
    "1.1 |1.0.0.0 erase 1.1.1+1.1.0", "1.1 1.0.0.0 erase 1.1.1+1.1.0+|",
)

STRANGE = (" ", "0", "1", "9", "-", "+", ".", "a", "e", "z", "A", "/", ":", "@", "[", "`", "{", "\n", "\t", "_", "\xe9", "\u0661", "")


class Deedtext(unittest.TestCase):
    def fault(self, text):
        with self.assertRaises(InvalidText) as caught:
            read_deed(text)
        self.assertEqual(caught.exception.text, text)
        self.assertIs(type(caught.exception.at), int)
        return caught.exception.at

    def assert_read(self, text):
        """The text is read, or found wrong, as the net of states tells."""
        at = wrong_at(text)
        if at is None:
            deed = read_deed(text)
            self.assertIs(is_deed(deed), True)
            self.assertEqual(deed_text(deed), text)
        else:
            self.assertEqual((text, self.fault(text)), (text, at))


class ToText(Deedtext):
    def test_each_word(self):
        for deed, text in TEXTS:
            with self.subTest(text=text):
                self.assertEqual(deed_text(deed), text)
                self.assertEqual(deed_text(deed=deed), text)
        self.assertEqual({deed[3][0] for deed, _ in TEXTS}, set(ACTS))

    def test_no_needless_blanks(self):
        for word in ACTS:
            for act in right_acts(word):
                text = deed_text(deed_of(act))
                self.assertTrue(text.startswith("2.3 5.2.0.7 " + word) or act[0] != word)
                if word in ("settle", "say"):
                    self.assertEqual(text, "2.3 5.2.0.7 " + word)


class FromText(Deedtext):
    def test_each_word(self):
        for deed, text in TEXTS:
            with self.subTest(text=text):
                self.assertEqual(read_deed(text), deed)
                self.assertEqual(read_deed(text=text), deed)
                self.assertIs(is_deed(read_deed(text)), True)

    def test_there_and_back(self):
        for word in ACTS:
            for act in right_acts(word):
                if str(BIG) in str(act):
                    continue
                for hand, number in ((1, 1), (2, 10), (3, 999999), (4, 7)):
                    seen = [999999, 0, 10, 100000]
                    seen[hand - 1] = number - 1
                    deed = (hand, number, tuple(seen), act)
                    self.assertEqual(read_deed(deed_text(deed)), deed)

    def test_wrong_texts(self):
        for told in WRONG:
            text = told.replace("|", "")
            with self.subTest(text=text):
                self.assertEqual(self.fault(text), told.index("|"))
                self.assertEqual(wrong_at(text), told.index("|"))

    def test_cut_at_every_place(self):
        for _, text in TEXTS:
            for at in range(len(text)):
                self.assert_read(text[:at])
                self.assert_read(text[at + 1:])

    def test_a_strange_sign_at_every_place(self):
        for _, text in TEXTS:
            for at in range(len(text) + 1):
                for sign in STRANGE:
                    self.assert_read(text[:at] + sign + text[at:])
                    self.assert_read(text[:at] + sign + text[at + 1:])

    def test_two_signs_changed(self):
        dice = random.Random(7)
        for _ in range(6000):
            text = dice.choice(TEXTS)[1]
            for _ in range(2):
                at = dice.randrange(len(text) + 1)
                text = text[:at] + dice.choice(STRANGE) + text[at + dice.randrange(2):]
            self.assert_read(text)

    def test_a_word_from_elsewhere_at_every_place(self):
        words = sorted({word for _, text in TEXTS for word in text.split(" ")} | {"", "00", "01.1", "1.0", "0.0.0", "1234567", "5", "SAY"})
        for _, text in TEXTS:
            own = text.split(" ")
            for at in range(len(own)):
                for word in words:
                    self.assert_read(" ".join(own[:at] + [word] + own[at:]))
                    self.assert_read(" ".join(own[:at] + [word] + own[at + 1:]))
                self.assert_read(" ".join(own[:at] + own[at + 1:]))

    def test_cut_at_the_end_is_wrong_at_its_length(self):
        for _, text in TEXTS:
            word = text.split(" ")[2]
            head = len(" ".join(text.split(" ")[:3]))
            for at in range(head):
                self.assertEqual(self.fault(text[:at]), at)
            if word not in ("say", "settle"):
                self.assertEqual(self.fault(text[:head]), head)

    def test_a_right_deed_of_other_signs(self):
        self.assertEqual(read_deed("1.1 0.0.0.0 bar 3"), (1, 1, (0, 0, 0, 0), ("bar", 3)))
        self.assertEqual(read_deed("1.1 0.9.0.0 say"), (1, 1, (0, 9, 0, 0), ("say",)))
        self.assertEqual(read_deed("1.1 0.0.0.0 note 1.1.0 4.1.0  "), (1, 1, (0, 0, 0, 0), ("note", (1, 1, 0), (4, 1, 0), " ")))
        self.assertEqual(read_deed("1.1 0.0.0.0 mark 1.1.0 1.1.0 settle say"),
                         (1, 1, (0, 0, 0, 0), ("mark", (1, 1, 0), (1, 1, 0), "settle", "say")))

    def test_the_same_twice(self):
        text = "1.1 0.0.0.0 write 0.0 - - ac"
        self.assertEqual(read_deed(text), read_deed(text))


class Interface(unittest.TestCase):
    def test_defined_in_its_module(self):
        for name in ("deed_text", "read_deed"):
            self.assertEqual(getattr(deedtext, name).__module__, "quillmoot.deedtext")


if __name__ == "__main__":
    unittest.main()
