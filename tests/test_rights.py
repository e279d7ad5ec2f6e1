"""Promise [10]: which deeds count."""

import random
import unittest

from quillmoot import rights
from quillmoot.errors import InvalidHistory, Undefined
from quillmoot.histories import is_history, part
from quillmoot.rights import counts, final, is_barred, is_late, is_settled, is_undone, why_not
from tests.makers import NOUGHT, Table, random_history
from tests.model import Model

ROOT = (0, 0)
ASKS = (is_barred, is_settled, is_late, is_undone, counts, why_not, final)


class Rights(unittest.TestCase):
    def setUp(self):
        self.table = Table()

    def told(self, ask):
        """The ids of which a function tells True, and that it tells False of the others."""
        history = self.table.history()
        self.assertIs(is_history(history), True)
        found = set()
        for deed in history:
            told = ask(history, deed[:2])
            self.assertIsInstance(told, bool)
            if told:
                found.add(deed[:2])
        return found

    def not_counted(self):
        """Why each deed that does not count does not."""
        history = self.table.history()
        reasons = {deed[:2]: why_not(history, deed[:2]) for deed in history}
        self.assertEqual({own for own, why in reasons.items() if why is None}, self.told(counts))
        return {own: why for own, why in reasons.items() if why is not None}


class Bars(Rights):
    def test_what_the_bar_has_not_seen(self):
        table = self.table
        table.write(2, ROOT, 0, "a")        # 2.1, seen by the bar
        table.learn(1, 2)
        table.write(2, ROOT, 0, "b")        # 2.2, not seen
        table.do(1, "bar", 2)               # 1.1
        table.write(2, ROOT, 0, "c")        # 2.3
        table.learn(2, 1)
        table.do(2, "say")                  # 2.4, behind the bar
        table.do(3, "say")                  # of another hand
        table.do(1, "say")
        self.assertEqual(self.told(is_barred), {(2, 2), (2, 3), (2, 4)})
        self.assertEqual(self.not_counted(), {(2, 2): (1, 1), (2, 3): (1, 1), (2, 4): (1, 1)})

    def test_a_let_that_the_deed_has_seen(self):
        table = self.table
        table.do(1, "bar", 2)               # 1.1
        table.do(2, "say")                  # 2.1 knows neither
        table.learn(2, 1)
        table.do(2, "say")                  # 2.2 knows the bar
        table.do(1, "let", 2)               # 1.2
        table.do(2, "say")                  # 2.3 does not know the let
        table.learn(2, 1)
        table.do(2, "say")                  # 2.4
        self.assertEqual(self.told(is_barred), {(2, 1), (2, 2), (2, 3)})

    def test_a_let_that_has_not_seen_the_bar(self):
        table = self.table
        table.do(1, "let", 2)               # 1.1
        table.learn(2, 1)
        table.do(2, "say")                  # 2.1 knows a let ahead of the bar
        table.do(1, "bar", 2)               # 1.2
        table.do(1, "let", 3)               # 1.3 of another hand
        table.learn(2, 1)
        table.do(2, "say")                  # 2.2
        self.assertEqual(self.told(is_barred), {(2, 1), (2, 2)})
        self.assertEqual(self.not_counted(), {(2, 1): (1, 2), (2, 2): (1, 2)})

    def test_two_bars_of_one_hand(self):
        table = self.table
        table.do(1, "bar", 3)               # 1.1
        table.do(1, "bar", 3)               # 1.2
        table.do(3, "say")                  # 3.1 is barred by both, the first one told
        table.learn(1, 3)
        table.do(1, "let", 3)               # 1.3
        table.learn(3, 1)
        table.do(3, "say")                  # 3.2 counts
        table.do(1, "bar", 3)               # 1.4 has not seen 3.2
        self.assertEqual(self.not_counted(), {(3, 1): (1, 1), (3, 2): (1, 4)})
        # a later bar that has seen the deed does nothing to it
        self.table = Table()
        self.table.do(3, "say")
        self.table.learn(1, 3)
        self.table.do(1, "bar", 3)
        self.assertEqual(self.not_counted(), {})

    def test_the_first_bar_that_bars_and_not_the_first_one(self):
        table = self.table
        table.write(2, ROOT, 0, "a")        # 2.1
        table.learn(1, 2)
        table.do(1, "bar", 2)               # 1.1 has seen it
        table.do(1, "let", 2)               # 1.2
        table.learn(2, 1)
        table.do(2, "say")                  # 2.2 is behind the let
        table.do(1, "bar", 2)               # 1.3
        table.do(1, "bar", 2)               # 1.4
        self.assertEqual(self.not_counted(), {(2, 2): (1, 3)})

    def test_a_let_between_two_bars_ends_the_first_one_alone(self):
        table = self.table
        table.do(1, "bar", 2)
        table.do(1, "let", 2)
        table.do(1, "bar", 2)
        table.learn(2, 1)
        table.do(2, "say")
        self.assertEqual(self.not_counted(), {(2, 1): (1, 3)})

    def test_the_owner_is_never_barred(self):
        table = self.table
        for hand in (2, 3, 4):
            table.do(1, "bar", hand)
        table.write(1, ROOT, 0, "a")
        self.assertEqual(self.told(is_barred), set())

    def test_bars_and_lets_far_from_each_other(self):
        table = self.table
        table.do(4, "say")                  # 4.1
        table.do(1, "bar", 4)               # 1.1
        table.do(4, "say")                  # 4.2
        table.learn(1, 4)
        table.do(1, "let", 4)               # 1.2: 4.1 and 4.2 have not seen it
        table.meet()
        table.do(4, "say")                  # 4.3
        self.assertEqual(self.not_counted(), {(4, 1): (1, 1), (4, 2): (1, 1)})


class Undos(Rights):
    def test_undo_redo_in_each_sequence(self):
        for words in (("undo",), ("redo",), ("undo", "redo"), ("redo", "undo"), ("undo", "undo"), ("undo", "redo", "undo"),
                      ("undo", "undo", "redo"), ("undo", "redo", "redo"), ("redo", "redo", "undo", "redo")):
            self.table = Table()
            self.table.write(2, ROOT, 0, "a")
            for word in words:
                self.table.do(2, word, 1)
            undone = words[-1] == "undo"
            self.assertEqual(self.told(is_undone), {(2, 1)} if undone else set())
            self.assertEqual(self.not_counted(), {(2, 1): (2, 1 + len(words))} if undone else {})

    def test_each_word_that_can_be_undone(self):
        table = self.table
        table.write(1, ROOT, 0, "ab")
        for act in (("erase", ((1, 1, 0),)), ("mark", (1, 1, 0), (1, 1, 1), "a", None), ("note", (1, 1, 0), (1, 1, 1), "a"),
                    ("block", ROOT, None), ("move", (1, 5), ROOT, None), ("drop", (1, 5))):
            table.do(1, *act)
        for n in range(7, 0, -1):
            table.do(1, "undo", n)
        self.assertEqual(self.not_counted(), {(1, n): (1, 15 - n) for n in range(1, 8)})

    def test_another_deed_and_another_hand(self):
        table = self.table
        for hand in (2, 3):
            for _ in range(2):
                table.write(hand, ROOT, 0, "a")
        table.do(2, "undo", 2)
        table.do(3, "undo", 1)
        self.assertEqual(self.not_counted(), {(2, 2): (2, 3), (3, 1): (3, 3)})

    def test_barred_undos_and_redos(self):
        table = self.table
        table.write(2, ROOT, 0, "a")        # 2.1
        table.do(2, "undo", 1)              # 2.2
        table.learn(1, 2)
        table.do(2, "redo", 1)              # 2.3 is barred
        table.do(1, "bar", 2)               # 1.1
        table.do(2, "redo", 1)              # 2.4 is barred
        table.learn(1, 2)
        self.assertEqual(self.not_counted(), {(2, 1): (2, 2), (2, 3): (1, 1), (2, 4): (1, 1)})
        table.do(1, "let", 2)
        table.learn(2, 1)
        table.do(2, "redo", 1)              # 2.5 counts
        self.assertEqual(self.not_counted(), {(2, 3): (1, 1), (2, 4): (1, 1)})

    def test_a_barred_undo_does_nothing(self):
        table = self.table
        table.write(3, ROOT, 0, "a")
        table.learn(1, 3)
        table.do(1, "bar", 3)
        table.do(3, "undo", 1)
        self.assertEqual(self.told(is_undone), set())
        self.assertEqual(self.not_counted(), {(3, 2): (1, 1)})

    def test_barred_and_undone(self):
        table = self.table
        table.do(1, "bar", 3)               # 1.1
        table.do(1, "let", 3)               # 1.2
        table.write(3, ROOT, 0, "a")        # 3.1 is barred
        table.learn(3, 1)
        table.do(3, "undo", 1)              # 3.2 is not, so 3.1 is undone, too
        self.assertEqual(self.told(is_undone), {(3, 1)})
        self.assertEqual(self.told(is_barred), {(3, 1)})
        self.assertEqual(self.not_counted(), {(3, 1): (1, 1)})


class Settles(Rights):
    def test_settled_is_in_the_past_of_a_settle(self):
        table = self.table
        table.write(2, ROOT, 0, "a")
        table.do(3, "say")
        table.learn(1, 2)
        table.do(1, "say")
        table.do(1, "settle")
        table.learn(3, 1)
        table.do(3, "say")
        for ask in (is_settled, final):
            self.assertEqual(self.told(ask), {(2, 1), (1, 1)})
        table.learn(1, 3)
        table.do(1, "settle")
        for ask in (is_settled, final):
            self.assertEqual(self.told(ask), {(2, 1), (1, 1), (1, 2), (3, 1), (3, 2)})

    def test_an_undo_that_a_settle_of_its_deed_has_not_seen(self):
        table = self.table
        table.write(2, ROOT, 0, "a")        # 2.1
        table.learn(1, 2)
        table.do(1, "settle")               # 1.1
        table.do(2, "undo", 1)              # 2.2 is late
        self.assertEqual(self.told(is_late), {(2, 2)})
        self.assertEqual(self.told(is_undone), set())
        self.assertEqual(self.not_counted(), {})
        table.learn(1, 2)
        table.do(1, "settle")               # a later settle has seen it, late it stays
        self.assertEqual(self.told(is_late), {(2, 2)})
        self.assertEqual(self.not_counted(), {})

    def test_a_settle_that_saw_the_undo_and_not_the_redo(self):
        table = self.table
        table.write(2, ROOT, 0, "a")        # 2.1
        table.do(2, "undo", 1)              # 2.2
        table.learn(1, 2)
        table.do(2, "redo", 1)              # 2.3 is late
        table.do(1, "settle")
        self.assertEqual(self.told(is_late), {(2, 3)})
        self.assertEqual(self.not_counted(), {(2, 1): (2, 2)})

    def test_a_settle_that_saw_all_of_it(self):
        table = self.table
        table.write(2, ROOT, 0, "a")
        table.do(2, "undo", 1)
        table.do(2, "redo", 1)
        table.learn(1, 2)
        table.do(1, "settle")
        self.assertEqual(self.told(is_late), set())
        self.assertEqual(self.not_counted(), {})

    def test_a_settle_that_has_not_seen_the_deed(self):
        table = self.table
        table.write(2, ROOT, 0, "a")        # 2.1
        table.learn(1, 2)
        table.write(2, ROOT, 0, "b")        # 2.2
        table.do(1, "settle")
        table.do(2, "undo", 2)
        self.assertEqual(self.told(is_late), set())
        self.assertEqual(self.not_counted(), {(2, 2): (2, 3)})

    def test_what_is_no_undo_is_not_late(self):
        table = self.table
        for hand in (1, 2, 3, 4):
            table.write(hand, ROOT, 0, "a")
        table.meet()
        table.do(1, "settle")
        table.meet()
        table.do(1, "settle")
        self.assertEqual(self.told(is_late), set())

    def test_a_bar_behind_a_settle(self):
        # what is settled is not barred by what comes behind, what is not is
        table = self.table
        table.write(2, ROOT, 0, "a")        # 2.1
        table.learn(1, 2)
        table.write(2, ROOT, 0, "b")        # 2.2
        table.do(1, "settle")               # 1.1
        table.do(1, "bar", 2)               # 1.2
        self.assertEqual(self.not_counted(), {(2, 2): (1, 2)})
        table.learn(1, 2)
        table.do(1, "settle")               # a barred deed is settled, too
        self.assertIn((2, 2), self.told(is_settled))
        self.assertEqual(self.not_counted(), {(2, 2): (1, 2)})


class ByDice(Rights):
    def test_all_functions(self):
        dice = random.Random(10)
        for _ in range(60):
            history = random_history(dice, dice.randint(2, 24))
            plain = Model(history)
            for deed in history:
                own = deed[:2]
                self.assertIs(is_barred(history, own), plain.first_bar(deed) is not None)
                self.assertIs(is_settled(history, own), plain.is_settled(deed))
                self.assertIs(final(history, own), plain.is_settled(deed))
                self.assertIs(is_late(history, own), plain.is_late(deed))
                self.assertIs(is_undone(history, own), plain.is_undone(deed))
                self.assertIs(counts(history, own), plain.counts(deed))
                self.assertEqual(why_not(history, own), plain.why_not(deed))

    def test_settled_deeds_count_in_greater_histories_as_they_do(self):
        dice = random.Random(101)
        many = 0
        for _ in range(40):
            history = random_history(dice, 20)
            for clock in {dice.choice(history)[2] for _ in range(4)}:
                lesser = part(history, clock)
                for deed in lesser:
                    if final(lesser, deed[:2]):
                        many += 1
                        self.assertIs(counts(lesser, deed[:2]), counts(history, deed[:2]))
                        self.assertEqual(why_not(lesser, deed[:2]), why_not(history, deed[:2]))
        self.assertGreater(many, 200)


class Wrong(Rights):
    def test_ids_that_are_not_there(self):
        history = [(1, 1, NOUGHT, ("say",)), (3, 1, NOUGHT, ("say",))]
        for ask in ASKS:
            for own in ((1, 2), (2, 1), (0, 0), (0, 1), (5, 1), (3, 0), (3, -1), (1, 999999)):
                with self.assertRaises(Undefined) as caught:
                    ask(history, own)
                self.assertEqual(caught.exception.what, "deed")
                self.assertRaises(Undefined, ask, (), own)

    def test_no_histories(self):
        for ask in ASKS:
            for value in (None, "say", [None], [(1, 2, (1, 0, 0, 0), ("say",))], ((2, 1, NOUGHT, ("bar", 3)),),
                          [(1, 1, NOUGHT, ("say",))] * 2):
                for own in ((1, 1), (9, 9)):
                    with self.assertRaises(InvalidHistory) as caught:
                        ask(value, own)
                    self.assertIs(caught.exception.value, value)

    def test_by_name(self):
        history = [(1, 1, NOUGHT, ("say",))]
        self.assertEqual([ask(history=history, deed_id=(1, 1)) for ask in ASKS],
                         [False, False, False, False, True, None, False])

    def test_defined_in_its_module(self):
        for ask in ASKS:
            self.assertEqual(ask.__module__, "quillmoot.rights")
            self.assertIs(getattr(rights, ask.__name__), ask)


if __name__ == "__main__":
    unittest.main()
