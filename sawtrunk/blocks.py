"""Blocks (box, up): what is left of a trunk, the cuts that take layers of it, and their edging."""

from sawtrunk.errors import TooThick
from sawtrunk.shapes import stretch, tight, whole_box, wood_in

# As they come up one behind the other where a block is turned.
SIDES = ("above", "right", "below", "left")


def whole_block(shape):
    """The block of a trunk that isn't sawn yet."""
    return (whole_box(shape), "above")


def turned(block):
    """The block with its next side up."""
    box, up = block
    return (box, SIDES[(SIDES.index(up) + 1) % len(SIDES)])


def deep_of(block):
    """How many lines the block has to be cut."""
    box, up = block
    return box[3] if way_of(up) == "x" else box[2]


def cut(shape, saw, block, thick):
    """A cut: the layer's box, how many cells are dust, and the block left or None."""
    box, up = block
    deep = deep_of(block)
    if thick > deep:
        raise TooThick(deep)
    layer, behind = _parted(box, up, thick)
    sawn, left = _parted(behind, up, min(saw, deep - thick))
    rest = tight(shape, left)
    return (layer, wood_in(shape, sawn), None if rest is None else (rest, up))


def edged(shape, layer, up, edge, narrow):
    """A layer's edging: the board's box or None, and how many cells are slab and dust."""
    wood = wood_in(shape, layer)
    board, reached = edging(shape, layer, up, edge, narrow)
    if board is None:
        return (None, wood, 0)
    near = wood_in(shape, reached)
    return (board, wood - near, near - wood_in(shape, board))


def edging(shape, layer, up, edge, narrow):
    """The board's box, and the one around it and the edger's dust; None and None without a board."""
    way = way_of(up)
    common = stretch(shape, layer, way)
    if common is None or common[1] - common[0] < narrow:
        return (None, None)
    lo, hi = common
    return (_between(layer, way, lo, hi), _between(layer, way, lo - edge, hi + edge))


def way_of(up):
    """The way along which the lines of a block lie that has this side up."""
    return "x" if up in ("above", "below") else "y"


def _parted(box, up, many):
    """So many lines of the box at its up side, and the lines behind them.

    Either part may be empty, so wide or high 0: there is no wood in such a part.
    """
    left, top, wide, high = box
    if up == "above":
        return ((left, top, wide, many), (left, top + many, wide, high - many))
    if up == "below":
        return ((left, top + high - many, wide, many), (left, top, wide, high - many))
    if up == "left":
        return ((left, top, many, high), (left + many, top, wide - many, high))
    return ((left + wide - many, top, many, high), (left, top, wide - many, high))


def _between(box, way, lo, hi):
    """What of each line of the box lies from lo on up to hi."""
    left, top, wide, high = box
    if way == "x":
        first = max(left, lo)
        return (first, top, min(left + wide, hi) - first, high)
    first = max(top, lo)
    return (left, first, wide, min(top + high, hi) - first)
