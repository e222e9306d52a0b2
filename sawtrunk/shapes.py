"""Shapes, tuples of rows (lo, hi) of cells, and the boxes (left, top, wide, high) laid over them."""

from sawtrunk.things import is_numbers


def is_shape(thing):
    """Of anything: whether it is a shape."""
    if not isinstance(thing, tuple) or len(thing) == 0:
        return False
    if not all([_is_row(row) for row in thing]):
        return False
    return _neighbours_meet(thing) and not _has_gap(thing)


def _is_row(thing):
    return is_numbers(thing, (0, 1)) and thing[0] < thing[1]


def is_box(thing):
    """Of anything: whether it is a box."""
    return is_numbers(thing, (0, 0, 1, 1))


def _neighbours_meet(shape):
    return all([max(one[0], other[0]) < min(one[1], other[1]) for one, other in zip(shape, shape[1:])])


def _has_gap(shape):
    """Of rows whose neighbours meet: whether a column has a gap."""
    # Where neighbours meet, the column beside a bay of the left or the right edge has cells on
    # both sides of the bay: so the edges tell of every gap, and no cell needs to be gone through.
    return _rises_then_falls([lo for lo, _ in shape]) or _rises_then_falls([-hi for _, hi in shape])


def _rises_then_falls(numbers):
    risen = False
    for one, other in zip(numbers, numbers[1:]):
        if other > one:
            risen = True
        elif other < one and risen:
            return True
    return False


def _spans(shape, box):
    """The cells in the box: (y, first, end) for each row that has some, from above."""
    left, top, wide, high = box
    spans = []
    for y in range(top, min(top + high, len(shape))):
        first = max(left, shape[y][0])
        end = min(left + wide, shape[y][1])
        if first < end:
            spans.append((y, first, end))
    return spans


def wood_in(shape, box):
    """How many cells of the shape lie in the box."""
    return sum([end - first for _, first, end in _spans(shape, box)])


def tight(shape, box):
    """The least box that has the same wood; None where there is none."""
    spans = _spans(shape, box)
    if not spans:
        return None
    left = min([first for _, first, _ in spans])
    right = max([end for _, _, end in spans])
    top = spans[0][0]
    return (left, top, right - left, spans[-1][0] + 1 - top)


def whole_box(shape):
    """The tight box of all cells of the shape."""
    return tight(shape, (0, 0, max([hi for _, hi in shape]), len(shape)))


def stretch(shape, box, way):
    """What all lines of the box have in common, as (lo, hi): its rows by "x", its columns by "y"."""
    lines = _row_lines(shape, box) if way == "x" else _column_lines(shape, box)
    if lines is None:
        return None
    lo = max([first for first, _ in lines])
    hi = min([end for _, end in lines])
    return (lo, hi) if lo < hi else None


def _row_lines(shape, box):
    """(first, end) of each row of the box; None where one has no cell."""
    spans = _spans(shape, box)
    if len(spans) < box[3]:
        return None
    return [(first, end) for _, first, end in spans]


def _column_lines(shape, box):
    """(first, end) of the columns of the box, alike ones perhaps once; None where one has no cell."""
    left, _, wide, _ = box
    spans = _spans(shape, box)
    # Columns differ only where a row begins or ends, so a box of any breadth has few of them.
    edges = [x for _, first, end in spans for x in (first, end) if left < x < left + wide]
    lines = [_column(spans, x) for x in [left] + edges]
    return None if None in lines else lines


def _column(spans, x):
    """(first, end) of the cells of a column; None where it has none."""
    rows = [y for y, first, end in spans if first <= x < end]
    return (rows[0], rows[-1] + 1) if rows else None


def round_shape(d):
    """The round shape of a diameter."""
    return tuple([_round_row(d, y) for y in range(d)])


def _round_row(d, y):
    # Twice the way to the middle, so that halves of cells stay whole numbers.
    down = 2 * y + 1 - d
    row = [x for x in range(d) if (2 * x + 1 - d) ** 2 + down ** 2 <= d ** 2]
    return (row[0], row[-1] + 1)


def turned_shape(shape):
    """The shape turned: its last column becomes the row above."""
    box = whole_box(shape)
    left, _, wide, _ = box
    spans = _spans(shape, box)
    return tuple([_column(spans, x) for x in range(left + wide - 1, left - 1, -1)])
