import unittest
from copy import deepcopy
from itertools import product

from sawtrunk.best import best, weighing
from sawtrunk.prices import worth_of
from sawtrunk.sawing import sawn
from sawtrunk.shapes import round_shape, turned_shape, whole_box
from sawtrunk.weighs import weighs

from helper import SlowSaw, asked, hold_soon, paid, same, small_shapes

TURN = ("turn",)
ANY = (("low", (), 99),)
RULES = (("fine", ("rot",), 0), ("good", ("rot",), 1), ("low", ("rot",), 2))
FREE = (0, 0, 1, 1, 0, ANY)
KNOT = ("knot", (1, 1, 1, 2, 1, 1))
ROT = ("rot", (2, 0, 0, 1, 2, 1))
SQUARE = ((0, 3),) * 3
EIGHT = ((0, 8),) * 8
PRICES = (
    ("low", 1, 2, 5), ("low", 1, 3, 9), ("low", 2, 2, 11), ("low", 2, 3, 17), ("good", 1, 1, 4), ("fine", 1, 2, 8),
)


def most_of_all_rows(saw, prices, thicks):
    """The greatest worth of all rows of deeds from here on, gone through one by one."""
    most = sum(paid(board, prices) for board in saw.boards)
    for turns, thick in product(range(4), thicks):
        other = SlowSaw((saw.shape, saw.long, saw.flaws), (saw.saw, saw.edge, saw.narrow, saw.short, 0, saw.rules))
        other.left, other.side, other.boards = set(saw.left), (saw.side + turns) % 4, list(saw.boards)
        if other.do(("cut", thick)) is None:
            most = max(most, most_of_all_rows(other, prices, thicks))
    return most


def most_turns(deeds):
    """How many turns stand side by side at most."""
    row = "".join("t" if deed == TURN else "c" for deed in deeds)
    return max(len(part) for part in row.split("c"))


class BestCase(unittest.TestCase):
    def hold(self, trunk, measures, prices, thicks):
        """The worth told; its deeds are worth it, and a weighing shows that none are worth more."""
        told = asked(self, best, trunk, measures, prices, thicks)
        self.assertIsInstance(told, tuple)
        worth, deeds = told
        self.assertIs(worth.__class__, int)
        self.assertIsInstance(deeds, list)
        for deed in deeds:
            self.assertTrue(deed == TURN or deed[0] == "cut" and deed[1] in thicks and len(deed) == 2, deed)
        boards = sawn(trunk, measures, deeds)[0]
        self.assertEqual(sum(worth_of(board, prices) for board in boards), worth)
        self.assertLessEqual(most_turns(deeds), 3)
        paper = asked(self, weighing, trunk, measures, prices, thicks)
        self.assertTrue(weighs(trunk, measures, prices, thicks, worth, paper))
        self.assertEqual(dict(paper)[whole_box(trunk[0])], worth)
        return worth


class AllRows(BestCase):
    """Small trunks held against all rows of deeds."""

    def hold_all(self, trunk, measures, prices, thicks):
        wanted = most_of_all_rows(SlowSaw(trunk, measures), prices, thicks)
        self.assertEqual(self.hold(trunk, measures, prices, thicks), wanted, (trunk, measures, prices, thicks))

    def test_small_shapes(self):
        for shape in small_shapes(3, 2):
            self.hold_all((shape, 2, ()), FREE, PRICES, (1, 2))
            self.hold_all((shape, 2, (KNOT, ROT)), (1, 0, 1, 1, 0, RULES), PRICES, (1,))
        for shape in list(small_shapes(3, 3))[::9]:
            self.hold_all((shape, 1, (ROT,)), (1, 1, 1, 1, 0, RULES), PRICES, (1, 2))

    def test_a_square_with_flaws(self):
        flaws = (("rot", (0, 0, 0, 1, 1, 1)), ("knot", (2, 2, 0, 1, 1, 1)), ("rot", (2, 1, 0, 1, 1, 1)))
        prices = (("fine", 1, 1, 7), ("fine", 2, 1, 15), ("good", 1, 2, 5), ("low", 1, 1, 2))
        rules = (("fine", ("rot",), 0), ("good", (), 1), ("low", (), 3))
        for many, saw, edge in product(range(4), (0, 1), (0, 1)):
            self.hold_all((SQUARE, 3, flaws[:many]), (saw, edge, 1, 1, 0, rules), prices, (1, 2, 3)[saw:])

    def test_measures_that_let_few_boards_be(self):
        for narrow, short in product((1, 2, 3, 4), (2, 3, 4)):
            self.hold_all((SQUARE, 3, ()), (1, 0, narrow, short, 0, ANY), PRICES, (1, 2))

    def test_a_saw_and_an_edge_of_three(self):
        shape = ((1, 4), (0, 5), (0, 5), (1, 6), (2, 4))
        for saw, edge in ((3, 3), (2, 3), (3, 0)):
            self.hold_all((shape, 2, ()), (saw, edge, 1, 1, 0, ANY), PRICES, (1, 2))

    def test_larger_trunks_with_few_cuts(self):
        for shape in (round_shape(5), turned_shape(((1, 4), (0, 6), (2, 6), (3, 4)))):
            self.hold_all((shape, 2, (KNOT,)), (2, 1, 1, 1, 0, RULES), PRICES, (1, 2))


class Worth(BestCase):
    """Trunks whose most was worked out by hand."""

    def told(self, wanted, trunk, measures, prices, thicks):
        self.assertEqual(self.hold(trunk, measures, prices, thicks), wanted)

    def test_one_cell(self):
        trunk = (((0, 1),), 1, ())
        self.told(3, trunk, FREE, (("low", 1, 1, 3),), (1,))
        same(self, best(trunk, FREE, (("low", 1, 1, 3),), (1,)), (3, [("cut", 1)]))
        same(self, weighing(trunk, FREE, (("low", 1, 1, 3),), (1,)), (((0, 0, 1, 1), 3),))

    def test_a_turn_that_is_worth_it(self):
        # Three rows of six: by its rows alone no board is less than six broad.
        trunk = (((0, 6),) * 3, 5, ())
        self.told(18, trunk, FREE, (("low", 3, 6, 10), ("low", 1, 3, 3)), (1, 3))
        self.told(20, trunk, FREE, (("low", 3, 3, 10), ("low", 1, 3, 3)), (1, 3))
        self.told(30, trunk, FREE, (("low", 1, 6, 10), ("low", 1, 3, 3)), (1, 3))

    def test_a_worthless_cut_ahead_of_a_worthy_one(self):
        # The rot lies in the first row; what is behind it is one board of three rows.
        trunk = (((0, 3),) * 4, 2, (("rot", (0, 0, 0, 9, 1, 9)),))
        measures = (0, 0, 1, 1, 0, (("fine", ("rot",), 0),))
        self.told(50, trunk, measures, (("fine", 3, 3, 50), ("fine", 1, 3, 10)), (1, 3))
        self.told(0, trunk, measures, (("fine", 3, 3, 50),), (4,))

    def test_nothing_worth_anything(self):
        for prices in ((), (("low", 1, 1, 0),), (("fine", 1, 1, 9),), (("low", 1, 4, 9),), (("low", 4, 1, 9),)):
            self.told(0, (SQUARE, 3, ()), FREE, prices, (1, 2))
        self.told(0, (SQUARE, 3, (ROT,)), (0, 0, 1, 1, 0, (("low", ("rot",), 9),)), (("low", 3, 1, 9),), (3,))

    def test_thicks_greater_than_every_block_is_deep(self):
        for thicks in ((4,), (4, 5), (10 ** 6 - 1, 10 ** 6), (7, 8, 10 ** 6)):
            prices = tuple(("low", thick, 1, 9) for thick in thicks)
            same(self, asked(self, best, (SQUARE, 3, ()), FREE, prices, thicks), (0, []))
            same(self, weighing((SQUARE, 3, ()), FREE, prices, thicks), (((0, 0, 3, 3), 0),))
            self.told(9, (SQUARE, 3, ()), FREE, prices + (("low", 3, 1, 9),), (3,) + thicks[:2])

    def test_cuts_of_the_thicks_alone(self):
        prices = (("low", 1, 1, 100), ("low", 2, 1, 3), ("low", 3, 1, 1))
        # Each cut takes one of three rows or three columns, and the last one of them both.
        for thicks, wanted in (((1,), 500), ((2,), 6), ((3,), 1), ((2, 3), 6), ((1, 3), 500)):
            self.told(wanted, (SQUARE, 3, ()), FREE, prices, thicks)

    def test_worth_as_great_as_may_be(self):
        prices = tuple(("low", 1, broad, 10 ** 12) for broad in range(1, 31))
        self.told(15 * 10 ** 12, (EIGHT, 1000, ()), FREE, prices, (1,))

    def test_a_trunk_too_short(self):
        for long, wanted in ((4, 0), (5, 9), (6, 9)):
            self.told(wanted, (SQUARE, long, ()), (0, 0, 1, 5, 0, ANY), (("low", 3, 3, 9),), (3,))


class Great(BestCase):
    """Eight rows and columns with three thicks."""

    def test_soon(self):
        flaws = tuple((kind, (k % 8, k // 3, k, 2, 1, 3)) for k, kind in enumerate(("rot", "knot", "bark", "knot") * 5))
        rules = (("fine", ("rot", "bark"), 1), ("good", ("rot",), 3), ("low", (), 20))
        prices = tuple((grade, thick, broad, thick * broad * (3 - k) + broad)
                       for k, grade in enumerate(("fine", "good")) for thick in (1, 2, 3) for broad in (1, 2, 4, 6, 8))
        for shape, saw, edge in product((EIGHT, round_shape(8)), (0, 1), (0, 2)):
            trunk = (shape, 1000, flaws)
            measures = (saw, edge, 1, 1, 30, rules)
            worth, deeds = hold_soon(self, best, trunk, measures, prices, (1, 2, 3))
            paper = hold_soon(self, weighing, trunk, measures, prices, (1, 2, 3))
            self.assertTrue(hold_soon(self, weighs, trunk, measures, prices, (1, 2, 3), worth, paper))
            boards = sawn(trunk, measures, deeds)[0]
            self.assertEqual(sum(worth_of(board, prices) for board in boards), worth)
            self.assertGreater(worth, 0)
            self.assertLessEqual(most_turns(deeds), 3)


class AskedAgain(unittest.TestCase):
    TRUNK = (round_shape(5), 4, (KNOT, ROT))
    ASK = (TRUNK, (1, 0, 1, 1, 0, RULES), PRICES, (1, 2))

    def test_a_told_list_that_is_changed(self):
        told = best(*self.ASK)
        kept = deepcopy(told)
        told[1].clear()
        told[1].append("more")
        again = best(*self.ASK)
        same(self, again, kept)
        self.assertIsNot(again[1], told[1])

    def test_nothing_hangs_on_what_was_asked_ahead(self):
        asks = [
            ((shape, 4, flaws), (saw, 0, 1, 1, 0, RULES), PRICES[k:], thicks)
            for shape in (SQUARE, round_shape(4)) for flaws in ((), (KNOT,), (ROT, KNOT))
            for saw in (0, 1) for k in (0, 2) for thicks in ((1,), (1, 2))
        ]
        first = [(best(*ask), weighing(*ask)) for ask in asks]
        again = [(best(*ask), weighing(*ask)) for ask in reversed(asks)]
        same(self, again, first[::-1])


if __name__ == "__main__":
    unittest.main()
