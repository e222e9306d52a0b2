"""Trunks (shape, long, flaws) sawn by rows of deeds, ("cut", thick) and ("turn",)."""

from sawtrunk.blocks import cut, edged, turned, way_of, whole_block
from sawtrunk.errors import NoBlock
from sawtrunk.parting import board_of, cells_of


def sawn(trunk, measures, deeds):
    """Deeds on a trunk's whole block: its boards, the block left or None, and how many cells are slab and dust."""
    layers, block = layers_of(trunk, measures, deeds)
    boards = [board for _, _, board, _, _ in layers if board is not None]
    slab = sum([many for _, _, _, many, _ in layers])
    dust = sum([many for _, _, _, _, many in layers])
    return (boards, block, slab, dust)


def layers_of(trunk, measures, deeds):
    """Each cut's (layer's box, side up, board or None, slab, dust), and the block left or None."""
    block = whole_block(trunk[0])
    layers = []
    for deed in deeds:
        if deed[0] == "turn":
            block = block_turned(block)
        else:
            layer, board, slab, dust, rest = block_cut(trunk, measures, block, deed[1])
            layers.append((layer, block[1], board, slab, dust))
            block = rest
    return (layers, block)


def block_turned(block):
    """A block, or None, turned."""
    if block is None:
        raise NoBlock("no block is left to turn")
    return turned(block)


def block_cut(trunk, measures, block, thick):
    """A cut of a block, or None: (layer's box, board or None, slab, dust, block left or None).

    Slab and dust are counts of cells along the whole trunk.
    """
    if block is None:
        raise NoBlock("no block is left to cut")
    shape, long, flaws = trunk
    saw, edge, narrow, _, _, _ = measures
    up = block[1]
    layer, sawdust, rest = cut(shape, saw, block, thick)
    box, slab, dust = edged(shape, layer, up, edge, narrow)
    slab *= long
    dust = (dust + sawdust) * long
    if box is None:
        return (layer, None, slab, dust, rest)
    left, top, wide, high = box
    body = (left, top, 0, wide, high, long)
    board = board_of(body, way_of(up), flaws, measures)
    if board is None:
        slab += cells_of(body)
    return (layer, board, slab, dust, rest)
