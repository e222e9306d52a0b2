import unittest

from sawtrunk.blocks import cut, edged, turned, whole_block
from sawtrunk.errors import TooThick
from sawtrunk.shapes import round_shape, turned_shape

from helper import asked, cells_in, cells_of, same, small_boxes, small_shapes, tight_of

UPS = ("above", "right", "below", "left")
LEANING = ((2, 5), (1, 5), (1, 4), (0, 2))
AWAY = ((7, 9), (5, 12), (6, 7))
SQUARE = ((0, 4),) * 4


def lines_from_up(box, up):
    """The lines of a box as boxes, the one at the up side first."""
    left, top, wide, high = box
    if up in ("above", "below"):
        lines = [(left, y, wide, 1) for y in range(top, top + high)]
    else:
        lines = [(x, top, 1, high) for x in range(left, left + wide)]
    return lines if up in ("above", "left") else lines[::-1]


def box_round(lines):
    cells = [cell for left, top, wide, high in lines for cell in ((left, top), (left + wide - 1, top + high - 1))]
    return tight_of(cells)


class WholeAndTurned(unittest.TestCase):
    def test_the_tight_box_of_all_cells(self):
        for shape in list(small_shapes(4, 3)) + [LEANING, AWAY, SQUARE]:
            same(self, asked(self, whole_block, shape), (tight_of(cells_of(shape)), "above"), shape)

    def test_a_shape_away_from_the_left(self):
        same(self, whole_block(AWAY), ((5, 0, 7, 3), "above"))
        same(self, whole_block(((39, 40),)), ((39, 0, 1, 1), "above"))

    def test_turned_in_order(self):
        box = (5, 0, 7, 3)
        block = (box, "above")
        for up in ("right", "below", "left", "above", "right"):
            block = asked(self, turned, block)
            same(self, block, (box, up))


class Cut(unittest.TestCase):
    def cut_by_cells(self, shape, saw, block, thick):
        box, up = block
        lines = lines_from_up(box, up)
        dust = [cell for line in lines[thick:thick + saw] for cell in cells_in(shape, line)]
        behind = [cell for line in lines[thick + saw:] for cell in cells_in(shape, line)]
        rest = (tight_of(behind), up) if behind else None
        return (box_round(lines[:thick]), len(dust), rest)

    def hold(self, shape, block):
        """Every cut of a block, and of the blocks that are left of it."""
        deep = len(lines_from_up(*block))
        for saw in range(4):
            for thick in range(1, deep + 1):
                told = asked(self, cut, shape, saw, block, thick)
                same(self, told, self.cut_by_cells(shape, saw, block, thick), shape, saw, block, thick)
                if saw == 1 and told[2] is not None:
                    for up in UPS:
                        self.hold(shape, (told[2][0], up))
            with self.assertRaises(TooThick) as caught:
                cut(shape, saw, block, deep + 1)
            same(self, caught.exception.deep, deep)

    def test_small_shapes_from_each_side(self):
        for shape in list(small_shapes(3, 3)) + [LEANING]:
            for up in UPS:
                self.hold(shape, (whole_block(shape)[0], up))

    def test_greater_shapes(self):
        for shape in (round_shape(9), turned_shape(round_shape(8)), AWAY):
            box = whole_block(shape)[0]
            for up in UPS:
                for saw in range(4):
                    for thick in range(1, len(lines_from_up(box, up)) + 1):
                        told = asked(self, cut, shape, saw, (box, up), thick)
                        same(self, told, self.cut_by_cells(shape, saw, (box, up), thick), shape, saw, up, thick)

    def test_each_of_the_four_sides(self):
        box = (0, 0, 4, 4)
        same(self, cut(SQUARE, 1, (box, "above"), 1), ((0, 0, 4, 1), 4, ((0, 2, 4, 2), "above")))
        same(self, cut(SQUARE, 1, (box, "right"), 1), ((3, 0, 1, 4), 4, ((0, 0, 2, 4), "right")))
        same(self, cut(SQUARE, 1, (box, "below"), 1), ((0, 3, 4, 1), 4, ((0, 0, 4, 2), "below")))
        same(self, cut(SQUARE, 1, (box, "left"), 1), ((0, 0, 1, 4), 4, ((2, 0, 2, 4), "left")))

    def test_a_saw_of_which_not_all_lines_are_there(self):
        box = (0, 0, 4, 4)
        for up in UPS:
            same(self, [cut(SQUARE, saw, (box, up), 2)[1] for saw in range(4)], [0, 4, 8, 8])
            same(self, [cut(SQUARE, saw, (box, up), 2)[2] is None for saw in range(4)], [False, False, True, True])

    def test_just_as_thick_as_the_block_is_deep(self):
        for saw in range(4):
            for up in UPS:
                same(self, cut(SQUARE, saw, ((0, 0, 4, 4), up), 4), ((0, 0, 4, 4), 0, None))

    def test_one_thicker_than_the_block_is_deep(self):
        box = (5, 0, 7, 3)
        for up, deep in (("above", 3), ("right", 7), ("below", 3), ("left", 7)):
            for thick in (deep + 1, deep + 2, 10 ** 6):
                with self.assertRaises(TooThick) as caught:
                    cut(AWAY, 0, (box, up), thick)
                same(self, caught.exception.deep, deep, up, thick)

    def test_the_block_left_is_tight(self):
        same(self, cut(LEANING, 0, ((0, 0, 5, 4), "above"), 3), ((0, 0, 5, 3), 0, ((0, 3, 2, 1), "above")))
        same(self, cut(LEANING, 1, ((0, 0, 5, 4), "right"), 2), ((3, 0, 2, 4), 3, ((0, 1, 2, 3), "right")))


class Edged(unittest.TestCase):
    def edged_by_cells(self, shape, layer, up, edge, narrow):
        across = 0 if up in ("above", "below") else 1
        wood = cells_in(shape, layer)
        lines = lines_from_up(layer, up)
        places = [{cell[across] for cell in cells_in(shape, line)} for line in lines]
        common = sorted(set.intersection(*places))
        if len(common) < max(narrow, 1):
            return (None, len(wood), 0)
        left, top, wide, high = layer
        if across == 0:
            board = (common[0], top, len(common), high)
        else:
            board = (left, common[0], wide, len(common))
        outside = [cell[across] for cell in wood if cell[across] not in common]
        away = [common[0] - place if place < common[0] else place - common[-1] for place in outside]
        dust = len([k for k in away if k <= edge])
        return (board, len(outside) - dust, dust)

    def hold(self, shape, layer):
        for up in UPS:
            for edge in range(4):
                for narrow in range(1, 5):
                    told = asked(self, edged, shape, layer, up, edge, narrow)
                    wanted = self.edged_by_cells(shape, layer, up, edge, narrow)
                    same(self, told, wanted, shape, layer, up, edge, narrow)

    def test_small_layers_of_small_shapes(self):
        boxes = small_boxes(2, 1)
        for shape in list(small_shapes(3, 2)) + [LEANING]:
            for layer in boxes:
                self.hold(shape, layer)

    def test_layers_of_greater_shapes(self):
        for shape in (round_shape(11), AWAY, LEANING):
            left, top, wide, high = whole_block(shape)[0]
            for thick in (1, 2, 3):
                for layer in (
                    (left, top, wide, thick), (left, top + high - thick, wide, thick),
                    (left, top, thick, high), (left + wide - thick, top, thick, high),
                ):
                    self.hold(shape, layer)

    def test_ups_of_both_kinds(self):
        shape = ((2, 7), (0, 9))
        for up in ("above", "below"):
            same(self, edged(shape, (0, 0, 9, 2), up, 1, 1), ((2, 0, 5, 2), 2, 2))
        turn = turned_shape(shape)
        for up in ("right", "left"):
            same(self, edged(turn, (0, 0, 2, 9), up, 1, 1), ((0, 2, 2, 5), 2, 2))

    def test_just_as_wide_as_narrow_and_one_less(self):
        shape = ((2, 7), (0, 9))
        same(self, edged(shape, (0, 0, 9, 2), "above", 0, 5), ((2, 0, 5, 2), 4, 0))
        same(self, edged(shape, (0, 0, 9, 2), "above", 0, 6), (None, 14, 0))
        same(self, edged(shape, (0, 0, 9, 2), "above", 3, 6), (None, 14, 0))

    def test_no_stretch(self):
        shape = ((0, 3), (2, 5), (4, 6))
        same(self, edged(shape, (0, 0, 6, 3), "above", 3, 1), (None, 8, 0))
        same(self, edged(shape, (0, 0, 6, 3), "left", 3, 1), (None, 8, 0))

    def test_edges_on_either_side(self):
        shape = ((4, 6), (0, 9))
        layer = (0, 0, 9, 2)
        for edge, slab, dust in ((0, 7, 0), (1, 5, 2), (2, 3, 4), (3, 1, 6)):
            same(self, edged(shape, layer, "above", edge, 1), ((4, 0, 2, 2), slab, dust), edge)
        lopsided = ((5, 9), (0, 7))
        for edge, slab, dust in ((0, 7, 0), (1, 5, 2), (2, 3, 4), (3, 2, 5)):
            same(self, edged(lopsided, (0, 0, 9, 2), "below", edge, 2), ((5, 0, 2, 2), slab, dust), edge)

    def test_all_of_the_layer_is_told(self):
        for shape in (round_shape(12), LEANING, AWAY):
            for up in UPS:
                box = whole_block(shape)[0]
                layer = cut(shape, 1, (box, up), 2)[0]
                board, slab, dust = edged(shape, layer, up, 1, 1)
                wood = 0 if board is None else board[2] * board[3]
                self.assertEqual(wood + slab + dust, len(cells_in(shape, layer)))


if __name__ == "__main__":
    unittest.main()
