"""Pictures of a sawn trunk: a sign for each cell across it."""

from sawtrunk.blocks import edging
from sawtrunk.sawing import layers_of

_NO_WOOD = "."
_BLOCK = "#"
_DUST = "-"
_SLAB = "="
_LETTERS = "abcdefghijklmnopqrstuvwxyz"


def picture(trunk, measures, deeds):
    """The picture of a trunk behind deeds on its whole block: a text for each row of its shape."""
    shape = trunk[0]
    wide = max([hi for _, hi in shape])
    layers, block = layers_of(trunk, measures, deeds)
    rows = [[_NO_WOOD] * wide for _ in shape]
    # What is then painted over by no layer and no block is what the saw made dust.
    _paint(rows, shape, (0, 0, wide, len(shape)), _DUST)
    many = 0
    for layer, up, board, _, _ in layers:
        _paint_layer(rows, shape, layer, up, measures, _sign(board, many))
        if board is not None:
            many += 1
    if block is not None:
        _paint(rows, shape, block[0], _BLOCK)
    return ["".join(row) for row in rows]


def _sign(board, many):
    """The sign of what a layer's stretch became, behind so many boards."""
    if board is None:
        return _SLAB
    return _LETTERS[many % len(_LETTERS)]


def _paint_layer(rows, shape, layer, up, measures, sign):
    """Paint a layer, its stretch with the sign."""
    _, edge, narrow, _, _, _ = measures
    _paint(rows, shape, layer, _SLAB)
    box, reached = edging(shape, layer, up, edge, narrow)
    if box is not None:
        _paint(rows, shape, reached, _DUST)
        _paint(rows, shape, box, sign)


def _paint(rows, shape, box, sign):
    """Paint the wood in the box."""
    left, top, wide, high = box
    for y in range(top, top + high):
        lo, hi = shape[y]
        for x in range(max(lo, left), min(hi, left + wide)):
            rows[y][x] = sign
