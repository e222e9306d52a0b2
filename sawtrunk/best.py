"""The most that a row of deeds on a trunk is worth, such a row, and the weighing that shows it.

What a block is worth hangs on its box alone, as any side can be turned up: so each box is gone
through once, the lesser ones ahead.
"""

from sawtrunk.blocks import turned, whole_block
from sawtrunk.cuts import cuts_of


def best(trunk, measures, prices, thicks):
    """The most that a row of deeds with cuts of these thicks is worth, and one such row."""
    cuts = _cuts_by_boxes(trunk, measures, prices, thicks)
    weights = _weights(cuts)
    block = whole_block(trunk[0])
    return (weights[block[0]], _deeds(cuts, weights, block))


def weighing(trunk, measures, prices, thicks):
    """The weighing (box, weight) of the most that a row of deeds is worth."""
    weights = _weights(_cuts_by_boxes(trunk, measures, prices, thicks))
    return tuple(weights.items())


def _cuts_by_boxes(trunk, measures, prices, thicks):
    """The cuts of each box that can be left of the trunk."""
    cuts = {}
    waiting = [whole_block(trunk[0])[0]]
    while waiting:
        box = waiting.pop()
        if box not in cuts:
            cuts[box] = cuts_of(trunk, measures, prices, thicks, box)
            waiting.extend([rest for _, _, _, rest in cuts[box] if rest is not None])
    return cuts


def _weights(cuts):
    """The most that each box is worth."""
    weights = {}
    # A cut leaves fewer lines, so what it leaves has been weighed ahead of the box.
    for _, box in sorted([(box[2] + box[3], box) for box in cuts]):
        weights[box] = max([gain + _weight(weights, rest) for _, _, gain, rest in cuts[box]], default=0)
    return weights


def _weight(weights, rest):
    return 0 if rest is None else weights[rest]


def _deeds(cuts, weights, block):
    """Deeds from the block on that are together worth its box's weight."""
    deeds = []
    box, up = block
    while _weight(weights, box) > 0:
        side, thick, rest = _best_cut(cuts, weights, box)
        deeds.extend(_turns(up, side))
        deeds.append(("cut", thick))
        box, up = rest, side
    return deeds


def _best_cut(cuts, weights, box):
    """The first cut of the box by which it is worth its weight: (side up, thick, box left or None)."""
    most = weights[box]
    fitting = [(up, thick, rest) for up, thick, gain, rest in cuts[box] if gain + _weight(weights, rest) == most]
    return fitting[0]


def _turns(up, side):
    """The turns that bring a side up, at most three."""
    deeds = []
    block = (None, up)
    while block[1] != side:
        deeds.append(("turn",))
        block = turned(block)
    return deeds
