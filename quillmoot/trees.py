"""The trees in which the signs of the blocks stand, as write deeds come one by one; without checks.

A node is a sign id, or a block id for the node above all signs of this block.
"""


def signs_of(deed):
    """The ids of the signs that a write deed makes."""
    hand, number, _, act = deed
    return [(hand, number, k) for k in range(len(act[4]))]


class Trees:
    """The parent of each sign, the side on which it hangs there, its block, and the row of each block."""

    def __init__(self):
        self.parents = {}
        self.sides = {}
        self.block_of = {}
        self.lefts = {}
        self.rights = {}
        self.rows = {}

    def enter(self, deed):
        """Hang the signs of a write deed into the tree of its block."""
        _, block, left, right, _ = deed[3]
        signs = signs_of(deed)
        if right is not None and (left is None or self.stands_above(left, right)):
            self.hang(signs[0], right, "left")
        elif left is not None:
            self.hang(signs[0], left, "right")
        else:
            self.hang(signs[0], block, "right")
        for sign, ahead in zip(signs[1:], signs):
            self.hang(sign, ahead, "right")
        for sign in signs:
            self.block_of[sign] = block
        self.rows[block] = self.walked(block)

    def stands_above(self, upper, sign):
        """Whether a sign is met on the way from another one up to the node above all."""
        node = sign
        while node in self.parents:
            node = self.parents[node]
            if node == upper:
                return True
        return False

    def hang(self, sign, parent, side):
        """Make a sign a child of a node on this side."""
        self.parents[sign] = parent
        self.sides[sign] = side
        children = self.lefts if side == "left" else self.rights
        children[parent] = sorted(children.get(parent, []) + [sign])

    def walked(self, block):
        """The signs of a block: for each node what hangs left of it, itself, and what hangs right of it."""
        row = []
        # what is still to be told, the next one last; of a sign that is unfolded its left children are told already
        waiting = [(sign, False) for sign in reversed(self.rights.get(block, []))]
        while waiting:
            sign, is_unfolded = waiting.pop()
            if is_unfolded:
                row.append(sign)
                continue
            waiting.extend([(child, False) for child in reversed(self.rights.get(sign, []))])
            waiting.append((sign, True))
            waiting.extend([(child, False) for child in reversed(self.lefts.get(sign, []))])
        return row

    def row(self, block):
        """The signs of a block in their row."""
        return self.rows.get(block, [])

    def parent(self, sign):
        """The sign of which this one is a child and the side; None stands for the node above all."""
        node = self.parents[sign]
        return (node if node in self.parents else None, self.sides[sign])

    def above(self, signs):
        """A dict that has these signs and all signs above them as its keys."""
        found = {}
        for sign in signs:
            node = sign
            while node in self.parents and node not in found:
                found[node] = True
                node = self.parents[node]
        return found

    def way(self, sign, top):
        """The way of a sign: itself, its parent and so on, below a node above it, each with its side."""
        steps = []
        node = sign
        while node != top:
            steps.append((node, self.sides[node]))
            node = self.parents[node]
        return tuple(steps)

    def lowest_above(self, x, y):
        """The lowest node, of two signs of one block, that is above both or is one of them and above the other one."""
        found = self.above([x])
        node = y
        while node in self.parents and node not in found:
            node = self.parents[node]
        return node
