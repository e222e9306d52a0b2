"""What the tests share: asking twice, and slow answers that go through every cell."""

from copy import deepcopy
from itertools import product


def asked(case, function, *things):
    """The answer of a function; it must be the same twice, and leave what is handed in as it was."""
    kept = deepcopy(things)
    first = function(*things)
    again = function(*things)
    # repr tells True from 1 and a list from a tuple.
    case.assertEqual(repr(first), repr(again))
    case.assertEqual(repr(things), repr(kept))
    return first


def same(case, told, wanted, *why):
    """The two are equal and of the same kinds throughout."""
    case.assertEqual(repr(told), repr(wanted), why)


def cells_of(shape):
    return {(x, y) for y, (lo, hi) in enumerate(shape) for x in range(lo, hi)}


def cells_in(shape, box):
    left, top, wide, high = box
    return {(x, y) for x, y in cells_of(shape) if left <= x < left + wide and top <= y < top + high}


def tight_of(cells):
    """The least box around cells; None without any."""
    if not cells:
        return None
    xs = [x for x, _ in cells]
    ys = [y for _, y in cells]
    return (min(xs), min(ys), max(xs) - min(xs) + 1, max(ys) - min(ys) + 1)


def is_shape_by_cells(rows):
    """Of rows (lo, hi) with 0 <= lo < hi: the two rules of a shape, cell by cell."""
    for one, other in zip(rows, rows[1:]):
        if not set(range(*one)) & set(range(*other)):
            return False
    cells = cells_of(rows)
    for x, y in cells:
        for below in range(y + 1, len(rows)):
            if (x, below) in cells and any((x, k) not in cells for k in range(y, below)):
                return False
    return True


def rows_within(wide):
    return [(lo, hi) for lo in range(wide) for hi in range(lo + 1, wide + 1)]


def small_shapes(wide, high):
    """Every shape of at most so many columns and rows."""
    for many in range(1, high + 1):
        for rows in product(rows_within(wide), repeat=many):
            if is_shape_by_cells(rows):
                yield rows


def small_boxes(wide, high):
    return list(product(range(wide + 1), range(high + 1), range(1, wide + 2), range(1, high + 2)))
