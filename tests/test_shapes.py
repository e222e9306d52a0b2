import unittest
from itertools import product

from sawtrunk.shapes import is_shape, round_shape, stretch, tight, turned_shape, wood_in

from helper import asked, cells_in, cells_of, is_shape_by_cells, rows_within, same, small_boxes, small_shapes, tight_of

BIG = 10 ** 60

# Three shapes of many kinds of edges, beside all the small ones.
LEANING = ((2, 5), (1, 5), (1, 4), (0, 2))
AWAY = ((7, 9), (5, 12), (6, 7))
HOLLOWED = ((3, 4), (0, 6), (2, 6), (5, 6))


def nested(thing, many, kind):
    for _ in range(many):
        thing = {"a": thing} if kind is dict else kind([thing])
    return thing


def shapes_and_boxes():
    """All small boxes over all small shapes, and boxes over the three greater ones."""
    small = list(product(small_shapes(3, 3), small_boxes(3, 3)))
    return small + list(product((LEANING, AWAY, HOLLOWED), small_boxes(12, 4)))


class IsShape(unittest.TestCase):
    def test_rows_are_a_shape_as_their_cells_tell(self):
        found = {True: 0, False: 0}
        for many in range(1, 5):
            for rows in product(rows_within(4), repeat=many):
                wanted = is_shape_by_cells(rows)
                same(self, is_shape(rows), wanted, rows)
                found[wanted] += 1
        self.assertGreater(min(found.values()), 1000)

    def test_rows_of_five(self):
        for rows in product(rows_within(3), repeat=5):
            same(self, is_shape(rows), is_shape_by_cells(rows), rows)

    def test_what_is_a_shape(self):
        for rows in (((0, 1),), ((39, 40),), LEANING, AWAY, HOLLOWED):
            same(self, asked(self, is_shape, rows), True, rows)

    def test_what_is_no_shape_of_rows(self):
        for rows in (
            (),
            ((-1, 1),), ((-2, -1),), ((1, 1),), ((2, 1),), ((0, 0),),
            ((0, 1), (1, 2)), ((1, 2), (0, 1)), ((0, 2), (5, 9)),
            ((0, 3), (1, 3), (0, 3)), ((0, 3), (0, 2), (0, 3)),
            ((0, 9), (4, 5), (4, 5), (4, 5), (0, 5)),
            ((0, 5), (4, 8), (4, 5), (3, 5)),
        ):
            same(self, asked(self, is_shape, rows), False, rows)

    def test_what_is_no_shape_by_its_kinds(self):
        for thing in (
            None, True, False, 0, 1, BIG, "", "ab", "((0, 1),)", [], {}, {0: 1},
            [(0, 1)], ([0, 1],), ((0, 2), [0, 2]), {(0, 1): (0, 1)}, ({0: 1, 1: 2},),
            ((False, 1),), ((0, True),), ((False, True),), ((0, 2), (True, 2)), ((0, 2), (0, True)),
            ((),), ((0,),), ((0, 1, 2),), ((0, 1), ()), ((0, 1), (0, 1, 1)),
            (0,), (0, 1), (None,), (True,), ("ab",), ("",), (((0, 1),),),
            ((None, 1),), ((0, None),), (("0", "1"),), ((0, "1"),), (("", 1),), (((0,), (1,)),), (([], {}),),
            ((0, 1), None), (None, (0, 1)), ((0, 1), "01"),
        ):
            same(self, asked(self, is_shape, thing), False, thing)

    def test_what_is_nested_thirty_deep(self):
        for kind in (tuple, list, dict):
            for inner in (None, (0, 1), ((0, 1),), 7, "a"):
                same(self, asked(self, is_shape, nested(inner, 29, kind)), False, kind, inner)
            same(self, asked(self, is_shape, ((0, 1), nested((0, 1), 27, kind))), False, kind)
            same(self, asked(self, is_shape, ((0, nested(1, 27, kind)),)), False, kind)

    def test_numbers_of_sixty_figures(self):
        for rows in (
            ((0, BIG),),
            ((BIG - 1, BIG),),
            ((0, BIG), (BIG - 1, 2 * BIG)),
            ((BIG, 3 * BIG), (0, 2 * BIG), (BIG, BIG + 1)),
        ):
            same(self, asked(self, is_shape, rows), True, rows)
        for rows in (
            ((BIG, BIG),),
            ((-BIG, BIG),),
            ((0, BIG), (BIG, 2 * BIG)),
            ((0, BIG), (1, BIG), (0, BIG)),
            ((0, BIG), (0, BIG - 1), (0, BIG)),
            ((0, 3 * BIG), (BIG, 2 * BIG), (BIG + 5, 2 * BIG), (BIG - 1, 2 * BIG)),
        ):
            same(self, asked(self, is_shape, rows), False, rows)

    def test_many_more_rows_than_forty(self):
        many = 20000
        stairs = tuple((k, k + 2) for k in range(many))
        same(self, is_shape(stairs), True)
        same(self, is_shape(stairs + ((many, many + 1),)), True)
        same(self, is_shape(stairs + ((many - 1, many + 1),)), True)
        same(self, is_shape(stairs + ((many - 2, many + 1),)), False)
        neck = ((0, 9),) + ((4, 5),) * many
        same(self, is_shape(neck + ((4, 99),)), False)
        same(self, is_shape(neck + ((0, 5),)), False)
        same(self, is_shape(neck + ((4, 5),)), True)
        same(self, is_shape(neck[1:] + ((0, 99),)), True)


class WoodAndTight(unittest.TestCase):
    def hold(self, shape, box):
        inside = cells_in(shape, box)
        same(self, asked(self, wood_in, shape, box), len(inside), shape, box)
        least = asked(self, tight, shape, box)
        same(self, least, tight_of(inside), shape, box)
        if least is not None:
            same(self, tight(shape, least), least, shape, box)
            same(self, wood_in(shape, least), len(inside), shape, box)

    def test_boxes_within_across_and_beyond_shapes(self):
        for shape, box in shapes_and_boxes():
            self.hold(shape, box)

    def test_boxes_far_greater_than_the_shape(self):
        same(self, asked(self, wood_in, LEANING, (0, 0, BIG, BIG)), 12)
        same(self, asked(self, tight, LEANING, (0, 0, BIG, BIG)), (0, 0, 5, 4))
        same(self, asked(self, wood_in, LEANING, (1, 1, BIG, BIG)), 8)
        same(self, asked(self, tight, LEANING, (1, 1, BIG, BIG)), (1, 1, 4, 3))
        same(self, asked(self, wood_in, AWAY, (0, 2, 10 ** 9, 10 ** 9)), 1)
        same(self, asked(self, tight, AWAY, (0, 2, 10 ** 9, 10 ** 9)), (6, 2, 1, 1))

    def test_boxes_beyond_the_shape(self):
        for box in ((BIG, 0, 1, 1), (0, BIG, 1, 1), (BIG, BIG, BIG, BIG), (0, 4, BIG, BIG), (5, 0, 9, 9), (0, 0, 1, 3)):
            same(self, asked(self, wood_in, LEANING, box), 0, box)
            same(self, asked(self, tight, LEANING, box), None, box)


class Stretch(unittest.TestCase):
    def stretch_by_cells(self, shape, box, way):
        left, top, wide, high = box
        across = 0 if way == "x" else 1
        cells = cells_in(shape, box)
        firsts = []
        ends = []
        for line in range(top, top + high) if way == "x" else range(left, left + wide):
            places = [cell[across] for cell in cells if cell[1 - across] == line]
            if not places:
                return None
            firsts.append(min(places))
            ends.append(max(places) + 1)
        return (max(firsts), min(ends)) if max(firsts) < min(ends) else None

    def hold(self, shape, box):
        for way in ("x", "y"):
            same(self, asked(self, stretch, shape, box, way), self.stretch_by_cells(shape, box, way), shape, box, way)

    def test_boxes_within_across_and_beyond_shapes(self):
        for shape, box in shapes_and_boxes():
            self.hold(shape, box)

    def test_both_ways(self):
        shape = ((1, 4), (0, 5), (1, 4))
        box = (0, 0, 5, 3)
        same(self, stretch(shape, box, "x"), (1, 4))
        same(self, stretch(shape, box, "y"), (1, 2))

    def test_a_line_without_a_cell(self):
        same(self, stretch(((0, 2), (1, 3)), (0, 0, 1, 2), "x"), None)
        same(self, stretch(((0, 2), (1, 3)), (2, 0, 1, 1), "y"), None)
        same(self, stretch(((1, 3),), (0, 0, 3, 1), "y"), None)
        same(self, stretch(((1, 3),), (0, 0, 3, 1), "x"), (1, 3))

    def test_lines_that_have_nothing_in_common(self):
        shape = ((0, 3), (2, 5), (4, 6))
        same(self, stretch(shape, (0, 0, 6, 3), "x"), None)
        same(self, stretch(shape, (0, 0, 6, 3), "y"), None)
        same(self, stretch(shape, (0, 0, 6, 2), "x"), (2, 3))
        same(self, stretch(((0, 2), (1, 3), (2, 4)), (0, 0, 4, 3), "x"), None)

    def test_a_box_beyond_the_shape(self):
        shape = ((0, 3), (0, 3))
        same(self, stretch(shape, (0, 0, 3, 3), "x"), None)
        same(self, stretch(shape, (0, 0, 3, 3), "y"), (0, 2))
        same(self, stretch(shape, (0, 0, 4, 2), "x"), (0, 3))
        same(self, stretch(shape, (0, 0, 4, 2), "y"), None)
        same(self, stretch(shape, (1, 1, BIG, 1), "x"), (1, 3))
        same(self, stretch(shape, (1, 1, 2, BIG), "y"), (1, 2))
        for box in ((0, 0, BIG, BIG), (BIG, 0, 1, 1), (0, BIG, 1, 1)):
            for way in ("x", "y"):
                same(self, asked(self, stretch, shape, box, way), None, box, way)


class RoundAndTurned(unittest.TestCase):
    def test_round_shapes_cell_by_cell(self):
        for d in range(1, 41):
            shape = asked(self, round_shape, d)
            wanted = {
                (x, y) for x in range(d) for y in range(d)
                if (2 * x + 1 - d) ** 2 + (2 * y + 1 - d) ** 2 <= d ** 2
            }
            self.assertEqual(cells_of(shape), wanted, d)
            same(self, is_shape(shape), True, d)
            self.assertEqual(len(shape), d)

    def test_the_round_shapes_that_are_named(self):
        same(self, round_shape(1), ((0, 1),))
        same(self, round_shape(2), ((0, 2), (0, 2)))
        same(self, round_shape(3), ((0, 3), (0, 3), (0, 3)))
        same(self, round_shape(4), ((1, 3), (0, 4), (0, 4), (1, 3)))
        forty = round_shape(40)
        same(self, forty[0], (16, 24))
        same(self, forty[20], (0, 40))
        same(self, forty[39], (16, 24))

    def hold_turned(self, shape):
        told = asked(self, turned_shape, shape)
        wide = max(hi for _, hi in shape)
        self.assertEqual(cells_of(told), {(y, wide - 1 - x) for x, y in cells_of(shape)}, shape)
        same(self, is_shape(told), True, shape)
        return told

    def test_turned_shapes_cell_by_cell(self):
        for shape in list(small_shapes(4, 3)) + [LEANING, AWAY, HOLLOWED]:
            told = shape
            for _ in range(4):
                told = self.hold_turned(told)
            left = min(lo for lo, _ in shape)
            same(self, told, tuple((lo - left, hi - left) for lo, hi in shape), shape)

    def test_a_turn(self):
        same(self, turned_shape(((0, 3),)), ((0, 1), (0, 1), (0, 1)))
        same(self, turned_shape(((0, 1), (0, 2))), ((1, 2), (0, 2)))
        same(self, turned_shape(((5, 7), (5, 6))), ((0, 1), (0, 2)))


if __name__ == "__main__":
    unittest.main()
