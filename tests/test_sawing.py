import unittest
from itertools import product

from sawtrunk.grades import touch
from sawtrunk.sawing import sawn
from sawtrunk.shapes import round_shape, turned_shape, wood_in

from helper import all_deeds, asked, cells_of, grade_by_cells, hold_by_cells, hold_refused, same, small_shapes

TURN = ("turn",)
SQUARE = ((0, 4),) * 4
LEANING = ((2, 5), (1, 5), (1, 4), (0, 2))
AWAY = ((7, 9), (5, 12), (6, 7))
ANY = (("low", (), 99),)
RULES = (("fine", ("rot",), 0), ("good", ("rot",), 1), ("low", ("rot",), 2))
FREE = (0, 0, 1, 1, 0, ANY)
KNOT = ("knot", (1, 1, 1, 2, 1, 1))
ROT = ("rot", (2, 0, 0, 1, 2, 1))

TRUNKS = (
    (SQUARE, 3, ()),
    (SQUARE, 2, (KNOT, KNOT, ROT)),
    (LEANING, 2, (ROT, ("knot", (0, 3, 1, 9, 9, 9)))),
    (AWAY, 1, (("knot", (7, 0, 0, 1, 1, 1)),)),
    (round_shape(6), 4, (KNOT, KNOT, KNOT)),
    (((0, 1),), 1, ()),
)
MEASURES = (
    FREE,
    (1, 1, 1, 1, 0, RULES),
    (1, 0, 2, 2, 5, RULES),
    (2, 2, 3, 3, 0, ANY),
    (3, 3, 1, 4, 30, RULES[1:]),
)


def cuts(*thicks):
    return [("cut", thick) for thick in thicks]


def body_cells(body):
    left, top, begin, wide, high, long = body
    return list(product(range(left, left + wide), range(top, top + high), range(begin, begin + long)))


class Rows(unittest.TestCase):
    def hold(self, trunk, measures, deeds):
        """What is told is what the cells tell, and behind each deed all wood is told of once."""
        held = hold_by_cells(self, sawn, trunk, measures, deeds)
        if held is not None:
            told, slow = held
            same(self, told, slow.told(), trunk, measures, deeds)
            self.hold_wood(trunk, measures, told)

    def hold_wood(self, trunk, measures, told):
        shape, long, flaws = trunk
        boards, block, slab, dust = told
        left = 0 if block is None else wood_in(shape, block[0])
        wood = [cell for body, _, _ in boards for cell in body_cells(body)]
        self.assertEqual(len(wood) + slab + dust + left * long, len(cells_of(shape)) * long)
        self.assertEqual(len(set(wood)), len(wood))
        trunk_cells = cells_of(shape)
        self.assertTrue(all((x, y) in trunk_cells and 0 <= z < long for x, y, z in wood))
        barred = {grade: (kinds, most) for grade, kinds, most in measures[5]}
        for body, _, grade in boards:
            touching = [kind for kind, where in flaws if touch(body, where)]
            self.assertFalse(set(touching) & set(barred[grade][0]))
            self.assertLessEqual(len(touching), barred[grade][1])

    def test_every_short_row_of_deeds(self):
        for trunk, measures in product(TRUNKS, MEASURES):
            for deeds in all_deeds((1, 2, 3), 4):
                self.hold(trunk, measures, deeds)

    def test_small_shapes(self):
        for shape in small_shapes(3, 3):
            for deeds in ([TURN] + cuts(1, 1), cuts(1) + [TURN] + cuts(1) + [TURN] + cuts(1), cuts(2, 1), [TURN]):
                self.hold((shape, 1, ()), (0, 1, 1, 1, 0, ANY), deeds)
                self.hold((shape, 2, (ROT,)), (1, 1, 2, 1, 0, RULES), deeds)

    def test_longer_rows_of_deeds(self):
        round_about = [TURN] + cuts(2)
        flaws = (("knot", (3, 3, 1, 4, 2, 2)), ("rot", (9, 9, 0, 2, 1, 5)), ("rot", (0, 5, 2, 2, 1, 1)))
        for shape in (round_shape(13), turned_shape(round_shape(12)), ((3, 9), (0, 11), (1, 14), (6, 14), (8, 9))):
            for measures in MEASURES:
                for many in range(1, 8):
                    self.hold((shape, 3, flaws), measures, round_about * many)
                    self.hold((shape, 3, flaws), measures, cuts(1, 2) + [TURN, TURN] * many + round_about * many)
                    self.hold((shape, 3, flaws), measures, cuts(1) * many + [TURN] * many + cuts(3))


class Layers(unittest.TestCase):
    """Rows of deeds whose answers were worked out by hand."""

    def told(self, trunk, measures, deeds, *wanted):
        same(self, asked(self, sawn, trunk, measures, deeds), wanted, trunk, measures, deeds)

    def test_no_deeds(self):
        self.told((SQUARE, 3, ()), FREE, [], [], ((0, 0, 4, 4), "above"), 0, 0)
        self.told((AWAY, 1000, (KNOT,)), (3, 3, 9, 9, 9, RULES), [], [], ((5, 0, 7, 3), "above"), 0, 0)

    def test_turns_alone(self):
        for many, up in enumerate(("above", "right", "below", "left", "above", "right")):
            self.told((AWAY, 7, ()), FREE, [TURN] * many, [], ((5, 0, 7, 3), up), 0, 0)

    def test_a_cut_of_each_side(self):
        for many, up, body, way, rest in (
            (0, "above", (0, 0, 0, 4, 1, 3), "x", (0, 2, 4, 2)), (1, "right", (3, 0, 0, 1, 4, 3), "y", (0, 0, 2, 4)),
            (2, "below", (0, 3, 0, 4, 1, 3), "x", (0, 0, 4, 2)), (3, "left", (0, 0, 0, 1, 4, 3), "y", (2, 0, 2, 4)),
        ):
            deeds = [TURN] * many + cuts(1)
            self.told((SQUARE, 3, ()), (1, 0, 1, 1, 0, ANY), deeds, [(body, way, "low")], (rest, up), 0, 12)

    def test_boards_in_their_order(self):
        boards = [
            ((0, 0, 0, 4, 1, 2), "x", "low"), ((3, 1, 0, 1, 3, 2), "y", "low"),
            ((0, 3, 0, 3, 1, 2), "x", "low"), ((0, 1, 0, 1, 2, 2), "y", "low"),
        ]
        deeds = (cuts(1) + [TURN]) * 4
        self.told((SQUARE, 2, ()), FREE, deeds, boards, ((1, 1, 2, 2), "above"), 0, 0)

    def test_slab_and_dust_along_the_whole_trunk(self):
        shape = ((4, 6), (0, 9), (1, 8))
        for long in (1, 2, 1000):
            boards = [((4, 0, 0, 2, 2, long), "x", "low")]
            for edge, slab, dust in ((0, 7, 0), (1, 5, 2), (2, 3, 4), (3, 1, 6)):
                measures = (0, edge, 1, 1, 0, ANY)
                block = ((1, 2, 7, 1), "above")
                self.told((shape, long, ()), measures, cuts(2), boards, block, slab * long, dust * long)
                measures = (1, edge, 1, 1, 0, ANY)
                self.told((shape, long, ()), measures, cuts(2), boards, None, slab * long, (dust + 7) * long)

    def test_a_saw_behind_which_nothing_is_left(self):
        body = (0, 0, 0, 4, 2, 5)
        for saw, dust in ((2, 40), (3, 40)):
            measures = (saw, 0, 1, 1, 0, ANY)
            self.told((SQUARE, 5, ()), measures, cuts(2), [(body, "x", "low")], None, 0, dust)

    def test_just_as_long_as_short_and_one_shorter(self):
        shape = ((1, 3), (0, 4))
        for long in (1, 2, 7, 1000):
            trunk = (shape, long, ())
            board = ((1, 0, 0, 2, 2, long), "x", "low")
            self.told(trunk, (0, 1, 1, long, 0, ANY), cuts(2), [board], None, 0, 2 * long)
            # Its cells are slab; the dust beside it stays dust.
            self.told(trunk, (0, 1, 1, long + 1, 0, ANY), cuts(2), [], None, 4 * long, 2 * long)
            self.told(trunk, (0, 0, 1, long + 1, 0, ANY), cuts(2), [], None, 6 * long, 0)

    def test_just_as_narrow_and_one_narrower(self):
        shape = ((1, 3), (0, 4))
        board = ((1, 0, 0, 2, 2, 5), "x", "low")
        self.told((shape, 5, ()), (0, 1, 2, 5, 0, ANY), cuts(2), [board], None, 0, 10)
        self.told((shape, 5, ()), (0, 1, 3, 5, 0, ANY), cuts(2), [], None, 30, 0)

    def test_a_layer_that_keeps_no_rule(self):
        shape = ((1, 3), (0, 4), (0, 4))
        flaws = (("rot", (1, 1, 2, 1, 1, 1)),)
        # The stretch is slab, what lies beside it stays the edger's dust, and the next row the saw's.
        self.told((shape, 3, flaws), (1, 1, 1, 1, 0, RULES), cuts(2), [], None, 12, 18)
        self.told((shape, 3, flaws), (0, 0, 1, 1, 0, RULES), cuts(2), [], ((0, 2, 4, 1), "above"), 18, 0)
        # A flaw beside the stretch bars nothing.
        beside = (("rot", (0, 1, 2, 1, 1, 1)), ("rot", (1, 2, 2, 1, 1, 1)), ("rot", (1, 0, 3, 1, 1, 1)))
        board = ((1, 0, 0, 2, 2, 3), "x", "fine")
        self.told((shape, 3, beside), (1, 1, 1, 1, 0, RULES), cuts(2), [board], None, 0, 18)

    def test_grades_by_flaws_that_touch(self):
        for many, grade in enumerate(("fine", "good", "low")):
            trunk = (SQUARE, 5, (("knot", (0, 0, 4, 1, 1, 9)),) * many)
            self.told(trunk, (0, 0, 1, 1, 0, RULES), cuts(4), [((0, 0, 0, 4, 4, 5), "x", grade)], None, 0, 0)
        trunk = (SQUARE, 5, (("knot", (0, 0, 4, 1, 1, 9)),) * 3)
        self.told(trunk, (0, 0, 1, 1, 0, RULES), cuts(4), [], None, 80, 0)

    def test_a_layer_between_that_gave_no_board(self):
        trunk = (SQUARE, 2, (("rot", (0, 1, 0, 1, 1, 1)),))
        boards = [((0, 0, 0, 4, 1, 2), "x", "fine"), ((0, 2, 0, 4, 1, 2), "x", "fine")]
        self.told(trunk, (0, 0, 1, 1, 0, RULES), cuts(1, 1, 1), boards, ((0, 3, 4, 1), "above"), 8, 0)

    def test_the_block_left_is_tight(self):
        boards = [((1, 0, 0, 3, 3, 1), "x", "low")]
        shape = ((1, 5), (1, 5), (1, 4), (0, 2))
        self.told((shape, 1, ()), FREE, cuts(3), boards, ((0, 3, 2, 1), "above"), 2, 0)


class Ways(unittest.TestCase):
    def test_way_x_and_way_y(self):
        shape = ((0, 6), (0, 6), (0, 6))
        for many, body, way in (
            (0, (0, 0, 0, 6, 2, 5), "x"), (2, (0, 1, 0, 6, 2, 5), "x"),
            (1, (4, 0, 0, 2, 3, 5), "y"), (3, (0, 0, 0, 2, 3, 5), "y"),
        ):
            boards = asked(self, sawn, (shape, 5, ()), FREE, [TURN] * many + cuts(2))[0]
            same(self, boards, [(body, way, "low")])


class Refused(unittest.TestCase):
    def refused(self, refusal, trunk, measures, deeds):
        hold_refused(self, refusal, sawn, trunk, measures, deeds)

    def test_one_thicker_than_the_block_is_deep(self):
        trunk = (AWAY, 4, ())
        for many, deep in ((0, 3), (1, 7), (2, 3), (3, 7), (4, 3)):
            turns = [TURN] * many
            same(self, sawn(trunk, FREE, turns + cuts(deep))[1], None)
            for thick in (deep + 1, deep + 2, 10 ** 6):
                self.refused(("TooThick", deep), trunk, FREE, turns + cuts(thick))

    def test_of_a_block_that_was_cut(self):
        self.refused(("TooThick", 2), (SQUARE, 1, ()), FREE, cuts(2, 3))
        self.refused(("TooThick", 1), (SQUARE, 1, ()), (1, 0, 1, 1, 0, ANY), cuts(2, 2))
        self.refused(("TooThick", 4), (SQUARE, 1, ()), FREE, cuts(2) + [TURN] + cuts(5))

    def test_no_block_is_left(self):
        trunk = (SQUARE, 1, ())
        for gone in (cuts(4), cuts(2, 2), [TURN] + cuts(4), cuts(1, 1, 1, 1)):
            for next_deed in (TURN, ("cut", 1), ("cut", 5), ("cut", 10 ** 6)):
                self.refused(("NoBlock",), trunk, FREE, gone + [next_deed])
                self.refused(("NoBlock",), trunk, FREE, gone + [next_deed, TURN])
        self.refused(("NoBlock",), trunk, (3, 0, 1, 1, 0, ANY), cuts(1, 1))

    def test_the_refusal_that_is_told_first(self):
        self.refused(("TooThick", 4), (SQUARE, 1, ()), FREE, cuts(5, 4) + [TURN, TURN])
        self.refused(("NoBlock",), (SQUARE, 1, ()), FREE, cuts(4, 1, 9))


class Great(unittest.TestCase):
    """Trunks as great as the document lets them be."""

    SHAPES = (round_shape(40), ((0, 40),) * 40, tuple((k // 2, 20 + k // 2) for k in range(40)))

    def flaws(self):
        return tuple((("knot", "rot", "crack")[k % 3], (2 * k, 39 - k, 50 * k, 3, 2, 1 + k)) for k in range(20))

    def hold_great(self, trunk, measures, deeds):
        told, slow = hold_by_cells(self, sawn, trunk, measures, deeds)
        same(self, told, slow.told())
        for many in range(len(deeds) + 1):
            self.hold_counts(trunk, *sawn(trunk, measures, deeds[:many]))
        return told

    def hold_counts(self, trunk, boards, block, slab, dust):
        shape, long, _ = trunk
        many = sum(body[3] * body[4] * body[5] for body, _, _ in boards)
        left = 0 if block is None else wood_in(shape, block[0]) * long
        self.assertEqual(many + slab + dust + left, len(cells_of(shape)) * long)

    def test_forty_five_thin_cuts(self):
        deeds = (cuts(1) + [TURN]) * 45
        for shape in self.SHAPES[:2]:
            for measures in ((0, 0, 1, 1, 0, ANY), (0, 3, 4, 1000, 30, RULES)):
                told = self.hold_great((shape, 1000, self.flaws()), measures, deeds)
                self.assertIsNotNone(told[1])
        self.assertEqual(len(sawn((((0, 40),) * 40, 1000, ()), FREE, deeds)[0]), 45)

    def test_twenty_flaws(self):
        rules = (("fine", ("rot",), 0), ("good", ("rot", "knot"), 3), ("low", (), 19))
        for shape in self.SHAPES:
            for deeds in (cuts(*[2] * 9), (cuts(3) + [TURN]) * 6, [TURN, TURN, TURN] + cuts(*[5] * 4)):
                self.hold_great((shape, 1000, self.flaws()), (1, 2, 3, 500, 1, rules), deeds)

    def test_flaws_beyond_the_trunk(self):
        flaws = (("rot", (999, 999, 999, 1000, 1000, 1000)), ("rot", (0, 0, 1000, 1000, 1000, 1000)))
        measures = (0, 0, 1, 1, 0, RULES)
        told = sawn((((0, 40),) * 40, 1000, flaws), measures, cuts(40))
        same(self, told, ([((0, 0, 0, 40, 40, 1000), "x", "fine")], None, 0, 0))
        told = sawn((((0, 40),) * 40, 1000, flaws + (("rot", (0, 0, 0, 1000, 1000, 1000)),)), measures, cuts(40))
        same(self, told, ([], None, 1600000, 0))

    def test_bounds_of_the_measures(self):
        far = 10 ** 6
        trunk = (SQUARE, 1000, ())
        same(self, sawn(trunk, (0, 0, far, 1, 0, ANY), cuts(4)), ([], None, 16000, 0))
        same(self, sawn(trunk, (0, 0, 1, far, 0, ANY), cuts(4)), ([], None, 16000, 0))
        board = ((0, 0, 0, 4, 4, 1000), "x", "low")
        same(self, sawn(trunk, (0, 0, 1, 1, 30, (("low", (), far),)), cuts(4)), ([board], None, 0, 0))

    def test_grades_as_the_cells_tell(self):
        measures = (0, 0, 1, 1, 0, RULES)
        for body, _, grade in sawn((round_shape(40), 1000, self.flaws()), measures, cuts(*[2] * 20))[0]:
            same(self, grade, grade_by_cells(body, self.flaws(), RULES))


class AskedAgain(unittest.TestCase):
    TRUNK = (round_shape(9), 5, (KNOT, ROT))
    MEASURES = (1, 1, 2, 2, 3, RULES)

    def test_a_list_that_was_told_is_the_askers_own(self):
        deeds = cuts(2) + [TURN] + cuts(2)
        told = sawn(self.TRUNK, self.MEASURES, deeds)
        kept = repr(told)
        self.assertGreater(len(told[0]), 0)
        told[0].append("more")
        told[0][0] = None
        again = sawn(self.TRUNK, self.MEASURES, deeds)
        self.assertEqual(repr(again), kept)
        self.assertIsNot(told[0], again[0])

    def test_deeds_that_are_changed_later(self):
        deeds = cuts(2)
        told = sawn(self.TRUNK, self.MEASURES, deeds)
        kept = repr(told)
        deeds.append(TURN)
        self.assertEqual(repr(told), kept)
        self.assertEqual(deeds, cuts(2) + [TURN])

    def test_nothing_hangs_on_what_was_asked_ahead(self):
        asks = [
            (trunk, measures, deeds)
            for trunk, measures in product(TRUNKS[:3], MEASURES[:3]) for deeds in ([], cuts(1), [TURN] + cuts(2, 1))
        ]
        first = [repr(sawn(*ask)) for ask in asks]
        hold_refused(self, ("TooThick", 4), sawn, (SQUARE, 1, ()), FREE, cuts(5))
        hold_refused(self, ("NoBlock",), sawn, (SQUARE, 1, ()), FREE, cuts(4, 4))
        self.assertEqual([repr(sawn(*ask)) for ask in reversed(asks)], first[::-1])


if __name__ == "__main__":
    unittest.main()
