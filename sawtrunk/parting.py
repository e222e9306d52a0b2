"""Boards (body, way, grade): their measures, and their parting by ripping and crossing."""

from sawtrunk.errors import TooBroad, TooLong
from sawtrunk.grades import grade_of

# A body holds its first place along an axis at the axis, and how many places there are this far behind.
_MANY = 3
_AXIS_LONG = 2


def thick_of(board):
    """How many cells thick a board is."""
    body, way, _ = board
    return body[1 - _axis_broad(way) + _MANY]


def breadth_of(board):
    """How many cells broad a board is."""
    body, way, _ = board
    return body[_axis_broad(way) + _MANY]


def long_of(board):
    """How many cells long a board is."""
    return board[0][_AXIS_LONG + _MANY]


def ripped(board, breadth, flaws, measures):
    """A board ripped at a breadth: two parts, each a board or None, and how many cells are slab and dust."""
    broad = breadth_of(board)
    if breadth >= broad:
        raise TooBroad(broad)
    return _parted(board, _axis_broad(board[1]), breadth, flaws, measures)


def crossed(board, long, flaws, measures):
    """A board crossed at a long: told as ripped is."""
    whole = long_of(board)
    if long >= whole:
        raise TooLong(whole)
    return _parted(board, _AXIS_LONG, long, flaws, measures)


def board_of(body, way, flaws, measures):
    """The board that a body makes; None where it is too narrow, too short, or of no grade."""
    _, _, narrow, short, _, rules = measures
    board = (body, way, grade_of(body, flaws, rules))
    if board[2] is None or breadth_of(board) < narrow or long_of(board) < short:
        return None
    return board


def cells_of(body):
    """How many cells a body has."""
    _, _, _, wide, high, long = body
    return wide * high * long


def _axis_broad(way):
    return 0 if way == "x" else 1


def _parted(board, axis, many, flaws, measures):
    """A board parted behind so many places along an axis."""
    body, way, _ = board
    behind = body[axis] + many
    left = body[axis + _MANY] - many
    gone = min(measures[1], left)
    first = _along(body, axis, body[axis], many)
    last = _along(body, axis, behind + gone, left - gone)
    one = board_of(first, way, flaws, measures)
    # A part without places is no body, so it is not graded.
    other = board_of(last, way, flaws, measures) if left > gone else None
    slab = (cells_of(first) if one is None else 0) + (cells_of(last) if other is None else 0)
    return (one, other, slab, cells_of(_along(body, axis, behind, gone)))


def _along(body, axis, first, many):
    """The body with other places along one axis: so many from the first one on."""
    part = list(body)
    part[axis] = first
    part[axis + _MANY] = many
    return tuple(part)
