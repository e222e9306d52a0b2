"""The cuts that a box of a trunk's wood can be given, whichever side is turned up."""

from sawtrunk.blocks import SIDES, deep_of
from sawtrunk.prices import worth_of
from sawtrunk.sawing import block_cut


def cuts_of(trunk, measures, prices, thicks, box):
    """Each cut of a block with this box: (side up, thick, what its board is worth, box left or None)."""
    found = []
    for up in SIDES:
        block = (box, up)
        for thick in thicks:
            if thick <= deep_of(block):
                _, board, _, _, rest = block_cut(trunk, measures, block, thick)
                gain = 0 if board is None else worth_of(board, prices)
                found.append((up, thick, gain, None if rest is None else rest[0]))
    return found
