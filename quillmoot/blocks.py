"""The tree of blocks."""

from quillmoot.errors import NoBlock
from quillmoot.forms import is_block_id
from quillmoot.histories import checked
from quillmoot.outline import whole_outline


def checked_outline(history, block):
    """The tree of blocks of a history that has this block in it."""
    outline = whole_outline(checked(history))
    if not is_block_id(block) or block not in outline.parents:
        raise NoBlock(block)
    return outline


def children_of(history, block):
    """The children of a block in their sequence, dropped ones too."""
    outline = checked_outline(history, block)
    return tuple(outline.children[block])


def parent_block(history, block):
    """The block of which this one is a child; None for the root."""
    outline = checked_outline(history, block)
    return outline.parents[block]


def is_dropped(history, block):
    """Whether this block itself was dropped."""
    outline = checked_outline(history, block)
    return block in outline.dropped


def vain_moves(history):
    """The ids of the moves that count and did nothing, in turn."""
    return tuple(whole_outline(checked(history)).vain)


def shown_blocks(history):
    """The blocks in preorder with their depths, without those that are dropped or below a dropped one."""
    return tuple(whole_outline(checked(history)).shown())
