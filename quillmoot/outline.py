"""The tree of blocks of a book; without checks."""

from quillmoot.books import ROOT
from quillmoot.deeds import id_of
from quillmoot.standing import counting_deeds


class Outline:
    """The children and the parent of each block, those that are dropped, and the moves that did nothing."""

    def __init__(self):
        self.children = {ROOT: []}
        self.parents = {ROOT: None}
        self.dropped = {}
        self.vain = []

    def enter(self, deed):
        """Do what the next deed, by turn, of those that count does to the tree."""
        act = deed[3]
        if act[0] == "block":
            block = id_of(deed)
            self.children[block] = []
            self.place(block, act[1], act[2])
        elif act[0] == "move":
            self.move(deed)
        elif act[0] == "drop" and act[1] in self.parents:
            self.dropped[act[1]] = True

    def move(self, deed):
        """Take a block out and place it anew, unless that would put it below itself."""
        _, block, parent, behind = deed[3]
        if block not in self.parents or self.is_below(parent, block):
            self.vain.append(id_of(deed))
            return
        self.children[self.parents[block]].remove(block)
        self.place(block, parent, behind)

    def is_below(self, block, upper):
        """Whether a block is another one or below it."""
        node = block
        while node is not None and node != upper:
            node = self.parents.get(node, None)
        return node == upper

    def place(self, block, parent, behind):
        """Make a block a child of parent, of the root if that is not there: behind another child, or first."""
        home = parent if parent in self.parents else ROOT
        neighbours = self.children[home]
        at = neighbours.index(behind) + 1 if behind in neighbours else 0
        neighbours.insert(at, block)
        self.parents[block] = home

    def hang(self, block, parent):
        """Make a block the last child of a parent."""
        self.children[block] = []
        self.children[parent].append(block)
        self.parents[block] = parent

    def with_depths(self, left_out):
        """The blocks in preorder with their depths, without those that are keys of left_out or below one of them."""
        blocks = []
        waiting = [(ROOT, 0)]
        while waiting:
            block, depth = waiting.pop()
            if block not in left_out:
                blocks.append((block, depth))
                waiting.extend([(child, depth + 1) for child in reversed(self.children[block])])
        return blocks

    def shown(self):
        """The blocks in preorder with their depths, without those that are dropped or below a dropped one."""
        return self.with_depths(self.dropped)

    def preorder(self):
        """All blocks of the tree, each ahead of those below it."""
        return [block for block, _ in self.with_depths({})]


def copied(outline):
    """Another tree of blocks like this one."""
    other = Outline()
    other.children = {block: list(children) for block, children in outline.children.items()}
    other.parents = {block: parent for block, parent in outline.parents.items()}
    other.dropped = {block: True for block in outline.dropped}
    other.vain = list(outline.vain)
    return other


def outline_of(book, deeds):
    """The tree of blocks that these deeds of a book, in turn, make behind its base."""
    outline = Outline() if book.base_outline is None else copied(book.base_outline)
    for deed in deeds:
        outline.enter(deed)
    return outline


def whole_outline(book):
    """The tree of blocks that the deeds of a book make."""
    return outline_of(book, counting_deeds(book, book.clock))
