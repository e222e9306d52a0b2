"""Whether something weighs a trunk: so that no row of deeds is worth more."""

from sawtrunk.blocks import whole_block
from sawtrunk.cuts import cuts_of
from sawtrunk.shapes import is_box, tight
from sawtrunk.things import is_whole


def weighs(trunk, measures, prices, thicks, worth, thing):
    """Of anything: whether it is a weighing for this worth."""
    weights = _weights_in(trunk[0], thing)
    if weights is None or not is_whole(worth):
        return False
    if weights.get(whole_block(trunk[0])[0]) != worth:
        return False
    return all([_outweighs(weights, box, cuts_of(trunk, measures, prices, thicks, box)) for box in weights])


def _weights_in(shape, thing):
    """The weights by their boxes; None where the thing isn't made of tight boxes, all unlike, and weights."""
    if not isinstance(thing, tuple):
        return None
    weights = {}
    for row in thing:
        if not _is_row(shape, row) or row[0] in weights:
            return None
        weights[row[0]] = row[1]
    return weights


def _is_row(shape, thing):
    if not isinstance(thing, tuple) or len(thing) != 2:
        return False
    box, weight = thing
    return is_box(box) and is_whole(weight) and weight >= 0 and tight(shape, box) == box


def _outweighs(weights, box, cuts):
    """Whether no cut of the box brings more than its weight, and each leaves a box that is weighed."""
    for _, _, gain, rest in cuts:
        if rest is not None and rest not in weights:
            return False
        if gain + (0 if rest is None else weights[rest]) > weights[box]:
            return False
    return True
