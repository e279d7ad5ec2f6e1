"""The trees in which the signs of the blocks stand, as write deeds come one by one; without checks.

A node is a sign id, or None for the node above all signs of a block. Sign k of a deed, k from 1 on, is always a right
child of sign k - 1, so only where the first sign of each deed hangs is written down.
"""


def signs_of(deed):
    """The ids of the signs that a write deed makes."""
    hand, number, _, act = deed
    return [(hand, number, k) for k in range(len(act[4]))]


def place_in(row, sign):
    """The place of a sign in a row in which it is."""
    # most is typed at the end
    return len(row) - 1 if row[-1] == sign else row.index(sign)


class Trees:
    """The block of each sign, what the first sign of each deed is a child of and on which side, and the rows."""

    def __init__(self):
        self.block_of = {}
        self.rows = {}
        self.parents = {}
        self.sides = {}
        # the first signs of deeds that hang at a sign, on the right also those at a block, ascending
        self.lefts = {}
        self.rights = {}

    def enter(self, deed):
        """Hang the signs of a write deed into the tree of its block."""
        hand, number, _, (_, block, left, right, text) = deed
        # a right place that was let go ahead of this has all below it let go, so this hangs at its left one
        if right in self.block_of and (left is None or self.stands_above(left, right)):
            self.hang((hand, number), block, right, "left", len(text))
        else:
            self.hang((hand, number), block, left, "right", len(text))

    def stands_above(self, upper, sign):
        """Whether a sign is met on the way from another one up to the node above all."""
        write, least = upper[:2], upper[2]
        if sign[:2] == write:
            return least < sign[2]
        node = self.parents[sign[:2]]
        while node is not None and node[:2] != write:
            node = self.parents[node[:2]]
        return node is not None and least <= node[2]

    def hang(self, write, block, parent, side, many):
        """Make so many signs of a deed, in a chain, the child of a node on this side."""
        hand, number = write
        signs = [(hand, number, k) for k in range(many)]
        row = self.row(block)
        children, key = self.rights, parent
        if side == "left":
            children = self.lefts
            at = self.left_place(row, parent, signs[0])
        elif parent is None:
            key = block
            at = self.right_place(row, self.rights.get(block, []), 0, signs[0])
        else:
            at = self.right_place(row, self.right_children(parent), place_in(row, parent) + 1, signs[0])
        self.rows[block] = row[:at] + signs + row[at:]
        for sign in signs:
            self.block_of[sign] = block
        self.parents[write] = parent
        self.sides[write] = side
        children[key] = sorted(children.get(key, []) + signs[:1])

    def left_place(self, row, parent, sign):
        """The place in the row of a new left child: ahead of its greater sisters, otherwise of its parent."""
        for sister in self.lefts.get(parent, []):
            if sister > sign:
                return place_in(row, self.first_below(sister))
        return place_in(row, parent)

    def right_place(self, row, sisters, nearest, sign):
        """The place in the row of a new right child: behind its lesser sisters, otherwise the nearest one."""
        lesser = [sister for sister in sisters if sister < sign]
        if not lesser:
            return nearest
        return place_in(row, self.last_below(lesser[-1])) + 1

    def right_children(self, sign):
        """The right children of a sign, ascending."""
        hand, number, k = sign
        children = self.rights.get(sign, [])
        if (hand, number, k + 1) in self.block_of:
            return sorted(children + [(hand, number, k + 1)])
        return children

    def first_below(self, sign):
        """The first one in the row of a sign and those below it."""
        node = sign
        while node in self.lefts:
            node = self.lefts[node][0]
        return node

    def last_below(self, sign):
        """The last one in the row of a sign and those below it."""
        node = sign
        children = self.right_children(node)
        while children:
            node = children[-1]
            children = self.right_children(node)
        return node

    def row(self, block):
        """The signs of a block in their row."""
        return self.rows.get(block, [])

    def parent(self, sign):
        """What a sign is a child of and on which side."""
        hand, number, k = sign
        if k > 0:
            return ((hand, number, k - 1), "right")
        return (self.parents[(hand, number)], self.sides[(hand, number)])

    def above(self, signs):
        """A dict that has these signs and all signs above them as its keys."""
        found = {}
        for sign in signs:
            node = sign
            while node is not None and node not in found:
                found[node] = True
                node = self.parent(node)[0]
        return found

    def way(self, sign):
        """A sign, its parent and so on, each with its side."""
        steps = []
        node = sign
        while node is not None:
            hand, number, k = node
            steps.extend([((hand, number, at), "right") for at in range(k, 0, -1)])
            steps.append(((hand, number, 0), self.sides[(hand, number)]))
            node = self.parents[(hand, number)]
        return steps

    def ways(self, x, y):
        """The ways of two signs of one block up to the lowest node in whose tree both are, without that."""
        way, other = self.way(x), self.way(y)
        while way and other and way[-1] == other[-1]:
            way.pop()
            other.pop()
        return (tuple(way), tuple(other))
