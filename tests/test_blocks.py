"""Promises [16] and [17]: the tree of blocks."""

import itertools
import random
import unittest

from quillmoot import blocks
from quillmoot.blocks import children_of, is_dropped, parent_block, shown_blocks, vain_moves
from quillmoot.errors import InvalidHistory, NoBlock
from quillmoot.histories import history_of, part
from quillmoot.rights import counts
from tests.makers import NOUGHT, Table, random_table
from tests.model import Model

ROOT = (0, 0)


class Blocks(unittest.TestCase):
    def setUp(self):
        """One makes three blocks, each ahead of the last one: c, b, a; all know them."""
        self.table = Table()
        self.a, self.b, self.c = [self.table.do(1, "block", ROOT, None) for _ in range(3)]
        self.table.meet()

    def assert_tree(self, *told):
        """The tree from the root down: pairs of a block and its pairs; checked by children and parents."""
        history = self.table.history()
        waiting = [(ROOT, None, told)]
        while waiting:
            block, parent, below = waiting.pop()
            self.assertEqual(children_of(history, block), tuple(child for child, _ in below))
            self.assertEqual(children_of(history=list(history[::-1]), block=block), tuple(child for child, _ in below))
            self.assertEqual(parent_block(history=history, block=block), parent)
            waiting += [(child, block, more) for child, more in below]

    def leaves(self, *own):
        return [(block, ()) for block in own]

    def assert_vain(self, *told):
        self.assertEqual(vain_moves(self.table.history()), told)
        self.assertEqual(vain_moves(history=list(self.table.history()[::-1])), told)


class Making(Blocks):
    def test_the_root_alone(self):
        for history in ((), [(1, 1, NOUGHT, ("say",))]):
            self.assertEqual(children_of(history, ROOT), ())
            self.assertIs(parent_block(history, ROOT), None)
            self.assertIs(is_dropped(history, ROOT), False)
            self.assertEqual(shown_blocks(history), ((ROOT, 0),))
            self.assertEqual(vain_moves(history), ())

    def test_first_and_behind_a_neighbour(self):
        table, a, b, c = self.table, self.a, self.b, self.c
        self.assert_tree(*self.leaves(c, b, a))
        d = table.do(1, "block", ROOT, b)
        self.assert_tree(*self.leaves(c, b, d, a))
        e = table.do(1, "block", ROOT, a)
        self.assert_tree(*self.leaves(c, b, d, a, e))
        f = table.do(1, "block", ROOT, None)
        self.assert_tree(*self.leaves(f, c, b, d, a, e))
        # behind what is no child of the parent: first
        g, h = table.do(1, "block", ROOT, ROOT), table.do(1, "block", a, b)
        i, j = table.do(1, "block", a, a), table.do(1, "block", a, h)
        self.assert_tree(*self.leaves(g, f, c, b, d), (a, self.leaves(i, h, j)), (e, ()))

    def test_two_hands_behind_one_neighbour(self):
        table, a, b, c = self.table, self.a, self.b, self.c
        two, three = table.do(2, "block", ROOT, b), table.do(3, "block", ROOT, b)
        self.assert_tree(*self.leaves(c, b, three, two, a))
        table.do(4, "say")
        four = table.do(4, "block", ROOT, None)
        self.assert_tree(*self.leaves(four, c, b, three, two, a))

    def test_a_parent_that_does_not_count(self):
        table, a, b, c = self.table, self.a, self.b, self.c
        d = table.do(1, "block", b, None)
        e = table.do(1, "block", d, None)
        self.assert_tree((c, ()), (b, [(d, self.leaves(e))]), (a, ()))
        table.do(1, "undo", b[1])
        # d has the root as its parent now, and comes first
        self.assert_tree((d, self.leaves(e)), (c, ()), (a, ()))
        f = table.do(1, "block", b, c)
        self.assert_tree((d, self.leaves(e)), (c, ()), (f, ()), (a, ()))
        table.do(1, "undo", d[1])
        self.assert_tree(*self.leaves(e, c, f, a))
        table.do(1, "redo", b[1])
        self.assert_tree(*self.leaves(e, c), (b, self.leaves(f)), (a, ()))

    def test_a_neighbour_that_has_moved_away(self):
        table, a, b, c = self.table, self.a, self.b, self.c
        table.do(1, "move", b, c, None)
        d = table.do(1, "block", ROOT, b)
        self.assert_tree((d, ()), (c, self.leaves(b)), (a, ()))


class Moving(Blocks):
    def test_to_another_place(self):
        table, a, b, c = self.table, self.a, self.b, self.c
        for behind, told in ((a, (c, a, b)), (None, (b, c, a)), (c, (c, b, a)), (b, (b, c, a)), (ROOT, (b, c, a)), (a, (c, a, b)),
                             (a, (c, a, b)), (b, (b, c, a))):
            table.do(1, "move", b, ROOT, behind)
            self.assert_tree(*self.leaves(*told))
        self.assert_vain()

    def test_with_all_below_it(self):
        table, a, b, c = self.table, self.a, self.b, self.c
        d = table.do(1, "block", a, None)
        e = table.do(1, "block", a, d)
        table.do(1, "move", a, c, None)
        self.assert_tree((c, [(a, self.leaves(d, e))]), (b, ()))
        table.do(1, "move", e, b, None)
        self.assert_tree((c, [(a, self.leaves(d))]), (b, self.leaves(e)))
        table.do(1, "move", d, c, a)
        self.assert_tree((c, self.leaves(a, d)), (b, self.leaves(e)))

    def test_into_itself_or_below(self):
        table, a, b, c = self.table, self.a, self.b, self.c
        one = table.do(1, "move", a, a, None)
        table.do(1, "move", b, a, None)
        two = table.do(1, "move", a, b, None)
        table.do(1, "move", c, b, None)
        three = table.do(1, "move", a, c, None)
        self.assert_tree((a, [(b, self.leaves(c))]))
        self.assert_vain(one, two, three)

    def test_two_hands_move_two_blocks_into_one_another(self):
        # the hand of less number is ahead by turn; with a say ahead of it the other one is
        for late, vain, told in ((None, (3, 1), "ab"), (2, (2, 2), "ba")):
            self.setUp()
            table, a, b, c = self.table, self.a, self.b, self.c
            if late:
                table.do(late, "say")
            two, three = table.do(2, "move", b, a, None), table.do(3, "move", a, b, None)
            self.assert_vain(vain)
            self.assertIn(vain, (two, three))
            upper, lower = (a, b) if told == "ab" else (b, a)
            self.assert_tree((c, ()), (upper, self.leaves(lower)))
            # the vain one does something as soon as the other one does not
            first = two if vain == three else three
            table.do(first[0], "undo", first[1])
            self.assert_vain()
            self.assert_tree((c, ()), (lower, self.leaves(upper)))
            table.do(first[0], "redo", first[1])
            self.assert_vain(vain)
            self.assert_tree((c, ()), (upper, self.leaves(lower)))
            table.do(vain[0], "undo", vain[1])
            self.assert_vain()
            self.assert_tree((c, ()), (upper, self.leaves(lower)))

    def test_a_ring_of_three(self):
        table, a, b, c = self.table, self.a, self.b, self.c
        two, three, four = table.do(2, "move", a, b, None), table.do(3, "move", b, c, None), table.do(4, "move", c, a, None)
        self.assert_vain(four)
        self.assert_tree((c, [(b, self.leaves(a))]))
        table.do(3, "undo", 1)
        self.assert_vain()
        self.assert_tree((b, [(a, self.leaves(c))]))
        table.do(3, "redo", 1)
        table.do(2, "undo", 1)
        self.assert_vain()
        self.assert_tree((a, [(c, self.leaves(b))]))

    def test_a_move_whose_block_does_not_count(self):
        table, a, b, c = self.table, self.a, self.b, self.c
        table.learn(2, 1)
        move = table.do(2, "move", b, a, None)
        table.do(1, "undo", b[1])
        self.assert_vain(move)
        self.assert_tree(*self.leaves(c, a))
        table.do(2, "undo", 1)
        # a move that does not count is not vain
        self.assert_vain()

    def test_a_parent_that_does_not_count(self):
        table, a, b, c = self.table, self.a, self.b, self.c
        table.do(1, "move", b, a, None)
        table.do(1, "undo", a[1])
        self.assert_vain()
        self.assert_tree(*self.leaves(b, c))
        table.do(1, "move", b, a, c)
        self.assert_tree(*self.leaves(c, b))
        table.do(1, "move", b, a, b)
        self.assert_tree(*self.leaves(b, c))
        table.do(1, "redo", a[1])
        self.assert_tree((c, ()), (a, self.leaves(b)))

    def test_vain_moves_in_turn(self):
        table, a, b, c = self.table, self.a, self.b, self.c
        two = table.do(2, "move", a, a, None)
        three = table.do(3, "move", b, b, None)
        four = table.do(2, "move", c, c, a)
        self.assert_vain(two, three, four)
        table.do(1, "bar", 2)
        self.assert_vain(three)


class Dropping(Blocks):
    def dropped(self):
        history = self.table.history()
        told = {block: is_dropped(history, block) for block in Model(history).outline_rows()[0]}
        self.assertLessEqual(set(map(type, told.values())), {bool})
        return {block for block, is_so in told.items() if is_so}

    def test_dropped_and_below(self):
        table, a, b, c = self.table, self.a, self.b, self.c
        d = table.do(1, "block", b, None)
        e = table.do(1, "block", d, None)
        self.assertEqual(shown_blocks(table.history()), ((ROOT, 0), (c, 1), (b, 1), (d, 2), (e, 3), (a, 1)))
        drop = table.do(2, "drop", b)
        self.assertEqual(self.dropped(), {b})
        self.assertEqual(shown_blocks(history=table.history()), ((ROOT, 0), (c, 1), (a, 1)))
        self.assert_tree((c, ()), (b, [(d, self.leaves(e))]), (a, ()))
        # wherever it is moved to
        table.meet()
        table.do(1, "move", b, a, None)
        self.assertEqual(self.dropped(), {b})
        self.assertEqual(shown_blocks(table.history()), ((ROOT, 0), (c, 1), (a, 1)))
        # what is moved out of it is shown
        table.do(1, "move", e, ROOT, c)
        self.assertEqual(shown_blocks(table.history()), ((ROOT, 0), (c, 1), (e, 1), (a, 1)))
        self.assert_tree((c, ()), (e, ()), (a, [(b, self.leaves(d))]))
        table.do(2, "undo", drop[1])
        self.assertEqual(self.dropped(), set())
        self.assertEqual(shown_blocks(table.history()), ((ROOT, 0), (c, 1), (e, 1), (a, 1), (b, 2), (d, 3)))

    def test_two_drops(self):
        table, a, b, c = self.table, self.a, self.b, self.c
        table.do(2, "drop", b)
        table.do(3, "drop", b)
        table.do(2, "undo", 1)
        self.assertEqual(self.dropped(), {b})
        table.do(3, "undo", 1)
        self.assertEqual(self.dropped(), set())

    def test_a_drop_of_what_does_not_count(self):
        table, a, b, c = self.table, self.a, self.b, self.c
        table.do(1, "undo", b[1])
        table.do(2, "drop", b)
        self.assertEqual(self.dropped(), set())
        self.assertEqual(shown_blocks(table.history()), ((ROOT, 0), (c, 1), (a, 1)))
        self.assertRaises(NoBlock, is_dropped, table.history(), b)
        table.do(1, "redo", b[1])
        self.assertEqual(self.dropped(), {b})

    def test_blocks_put_into_a_dropped_one(self):
        table, a, b, c = self.table, self.a, self.b, self.c
        table.do(2, "drop", b)
        d = table.do(3, "block", b, None)
        table.learn(4, 3)
        table.do(4, "move", a, b, d)
        self.assertEqual(shown_blocks(table.history()), ((ROOT, 0), (c, 1)))
        self.assertEqual(children_of(table.history(), b), (d, a))

    def test_preorder(self):
        table, a, b, c = self.table, self.a, self.b, self.c
        table.do(1, "move", a, c, None)
        d = table.do(1, "block", c, a)
        e = table.do(1, "block", a, None)
        f = table.do(1, "block", ROOT, c)
        self.assertEqual(shown_blocks(table.history()), ((ROOT, 0), (c, 1), (a, 2), (e, 3), (d, 2), (f, 1), (b, 1)))

    def test_blocks_within_one_another(self):
        table = Table()
        block = ROOT
        for _ in range(24):
            block = table.do(1, "block", block, None)
        self.assertEqual(shown_blocks(table.history()), ((ROOT, 0),) + tuple(((1, n), n) for n in range(1, 25)))


class Promise(Blocks):
    def histories(self, seed, many, most):
        dice = random.Random(seed)
        while many:
            table = random_table(dice, most, longest=1, meeting=dice.choice((0.2, 0.5)))
            # more blocks and moves than the dice give
            for _ in range(most):
                hand = dice.randint(1, 4)
                table.learn(hand, dice.randint(1, 4))
                own = table.known(hand).blocks()
                block, parent, behind = dice.choice(own), dice.choice(own), dice.choice([None] + own)
                act = ("move", block, parent, behind) if block != ROOT else ("block", parent, behind)
                if dice.random() < 0.2 and table.clocks[hand][hand - 1]:
                    act = (dice.choice(("undo", "redo")), dice.randint(1, table.clocks[hand][hand - 1]))
                if len(own) < 9 and table.known(hand).fits(table.deed(hand, *act)):
                    table.do(hand, *act)
            many -= 1
            yield tuple(dice.sample(table.deeds, len(table.deeds)))

    def test_by_dice(self):
        vain = 0
        for history in self.histories(16, 60, 18):
            plain = Model(history)
            parents, children = plain.outline_rows()
            _, dropped, moves = plain.outline()
            for block in plain.blocks():
                if block not in parents:
                    for ask in (children_of, parent_block, is_dropped):
                        self.assertRaises(NoBlock, ask, history, block)
                else:
                    self.assertEqual(children_of(history, block), children[block])
                    self.assertEqual(parent_block(history, block), parents[block])
                    self.assertIs(is_dropped(history, block), block in dropped)
            self.assertEqual(vain_moves(history), tuple(moves))
            self.assertEqual(list(shown_blocks(history)), plain.shown_blocks())
            vain += len(moves)
        self.assertGreater(vain, 20)

    def tree(self, history):
        """The blocks of the tree that can be reached from the root, each with its parent."""
        found = {ROOT: None}
        for block in found.copy():
            waiting = [block]
            while waiting:
                node = waiting.pop()
                for child in children_of(history, node):
                    self.assertNotIn(child, found)
                    found[child] = node
                    waiting.append(child)
        return found

    def test_parents_lead_to_the_root(self):
        for history in self.histories(17, 25, 14):
            found = self.tree(history)
            for block, parent in found.items():
                self.assertEqual(parent_block(history, block), parent)
            for deed in history:
                # a block deed that counts is in the tree, one that does not is not
                if deed[3][0] == "block":
                    self.assertIs(deed[:2] in found, counts(history, deed[:2]))

    def test_the_last_move_that_is_not_vain_tells_the_parent(self):
        many = 0
        for history in self.histories(171, 25, 14):
            vain = vain_moves(history)
            turns = history_of(history)
            last = {deed[3][1]: deed for deed in turns if deed[3][0] == "move" and counts(history, deed[:2]) and deed[:2] not in vain}
            made = [deed[:2] for deed in turns if deed[3][0] == "block" and counts(history, deed[:2])]
            for block, deed in last.items():
                ahead = turns[:turns.index(deed)]
                parent = deed[3][2]
                if parent == ROOT or any(other[:2] == parent and parent in made for other in ahead):
                    self.assertEqual(parent_block(history, block), parent)
                    many += 1
        self.assertGreater(many, 20)

    def test_one_that_is_behind_all_others_by_turn(self):
        for history in self.histories(172, 8, 12):
            turns = history_of(history)
            for many in range(1, len(turns) + 1):
                lesser, deed = turns[:many - 1], turns[many - 1]
                alike = all(counts(lesser, own[:2]) == counts(turns[:many], own[:2]) for own in lesser)
                if alike and deed[3][0] not in ("block", "move", "drop"):
                    self.assertEqual(self.tree(lesser), self.tree(turns[:many]))
                    self.assertEqual(shown_blocks(lesser), shown_blocks(turns[:many]))
                if alike and deed[3][0] == "move" and deed[:2] in vain_moves(turns[:many]):
                    self.assertEqual(self.tree(lesser), self.tree(turns[:many]))


class Wrong(Blocks):
    def test_blocks_that_are_not_in_the_tree(self):
        table = self.table
        table.do(1, "undo", self.b[1])
        table.write(2, ROOT, 0, "a")
        history = table.history()
        for block in (self.b, (2, 1), (1, 4), (1, 9), (4, 1), (5, 1), (0, 1), (1, 0), (1, 999999), (False, False), (True, 1), [1, 1],
                      None):
            for ask in (children_of, parent_block, is_dropped):
                with self.assertRaises(NoBlock) as caught:
                    ask(history, block)
                self.assertEqual(caught.exception.block, block)
                self.assertRaises(NoBlock, ask, (), block)

    def test_no_histories(self):
        for value in (None, [None], [(1, 2, (1, 0, 0, 0), ("say",))], ((2, 1, NOUGHT, ("settle",)),)):
            for ask, others in ((children_of, ((9, 9),)), (parent_block, ((9, 9),)), (is_dropped, ((9, 9),)), (vain_moves, ()),
                                (shown_blocks, ())):
                with self.assertRaises(InvalidHistory) as caught:
                    ask(value, *others)
                self.assertIs(caught.exception.value, value)

    def test_any_order_of_the_deeds(self):
        table, a, b, c = self.table, self.a, self.b, self.c
        table.do(2, "move", b, a, None)
        table.do(3, "move", a, b, None)
        table.do(4, "drop", c)
        told = {(shown_blocks(deeds), vain_moves(deeds), children_of(deeds, a)) for deeds in itertools.permutations(table.deeds)}
        self.assertEqual(told, {(((ROOT, 0), (a, 1), (b, 2)), ((3, 1),), (b,))})
        self.assertEqual(shown_blocks(part(table.deeds, (3, 0, 1, 0))), ((ROOT, 0), (c, 1), (b, 1), (a, 2)))

    def test_defined_in_its_module(self):
        for name in ("children_of", "parent_block", "is_dropped", "vain_moves", "shown_blocks"):
            self.assertEqual(getattr(blocks, name).__module__, "quillmoot.blocks")


if __name__ == "__main__":
    unittest.main()
