import unittest
from itertools import product

from sawtrunk.pictures import picture
from sawtrunk.sawing import sawn
from sawtrunk.shapes import round_shape, turned_shape

from helper import all_deeds, asked, hold_by_cells, hold_refused, same, small_shapes

TURN = ("turn",)
SQUARE = ((0, 4),) * 4
AWAY = ((7, 9), (5, 12), (6, 7))
ANY = (("low", (), 99),)
RULES = (("fine", ("rot",), 0), ("good", ("rot",), 1))
FREE = (0, 0, 1, 1, 0, ANY)
ROT = ("rot", (2, 0, 0, 1, 2, 1))


def cuts(*thicks):
    return [("cut", thick) for thick in thicks]


class Signs(unittest.TestCase):
    """Pictures that were drawn by hand."""

    def drawn(self, shape, measures, deeds, *rows, long=3, flaws=()):
        same(self, asked(self, picture, (shape, long, flaws), measures, deeds), list(rows), measures, deeds)

    def test_no_deeds(self):
        self.drawn(AWAY, FREE, [], ".......##...", ".....#######", "......#.....")
        self.drawn(((39, 40),), FREE, [], "." * 39 + "#")
        self.drawn(SQUARE, (3, 3, 9, 9, 9, RULES), [], "####", "####", "####", "####")

    def test_turns_alone(self):
        for many in range(6):
            self.drawn(AWAY, FREE, [TURN] * many, ".......##...", ".....#######", "......#.....")

    def test_a_cut_of_each_side(self):
        measures = (1, 0, 1, 1, 0, ANY)
        self.drawn(SQUARE, measures, cuts(1), "aaaa", "----", "####", "####")
        self.drawn(SQUARE, measures, [TURN] + cuts(1), "##-a", "##-a", "##-a", "##-a")
        self.drawn(SQUARE, measures, [TURN] * 2 + cuts(1), "####", "####", "----", "aaaa")
        self.drawn(SQUARE, measures, [TURN] * 3 + cuts(1), "a-##", "a-##", "a-##", "a-##")

    def test_all_the_signs(self):
        shape = ((4, 6), (0, 9), (1, 8), (2, 8))
        for edge, row in enumerate(("====aa===", "===-aa-==", "==--aa--=", "=---aa---")):
            self.drawn(shape, (1, edge, 1, 1, 0, ANY), cuts(2), "....aa...", row, ".-------.", "..######.")
            self.drawn(shape, (0, edge, 1, 1, 0, ANY), cuts(2), "....aa...", row, ".#######.", "..######.")

    def test_a_stretch_along_the_columns(self):
        shape = turned_shape(((4, 6), (0, 9)))
        self.drawn(shape, (0, 1, 1, 1, 0, ANY), [TURN] + cuts(2),
                   ".=", ".=", ".-", "aa", "aa", ".-", ".=", ".=", ".=")

    def test_boards_by_their_letters_in_their_order(self):
        self.drawn(SQUARE, FREE, (cuts(1) + [TURN]) * 4, "aaaa", "d##b", "d##b", "cccb")
        self.drawn(SQUARE, FREE, cuts(1, 1, 1, 1), "aaaa", "bbbb", "cccc", "dddd")
        self.drawn(SQUARE, FREE, [TURN, TURN] + cuts(1, 1, 1, 1), "dddd", "cccc", "bbbb", "aaaa")

    def test_a_layer_between_that_gave_no_board(self):
        rot = ("rot", (0, 1, 0, 1, 1, 1))
        self.drawn(SQUARE, (0, 0, 1, 1, 0, RULES), cuts(1, 1, 1), "aaaa", "====", "bbbb", "####", flaws=(rot,))
        shape = ((0, 4), (0, 1), (0, 4), (0, 4))
        self.drawn(shape, (0, 0, 2, 1, 0, ANY), cuts(1, 1, 1, 1), "aaaa", "=...", "bbbb", "cccc")

    def test_a_stretch_that_is_no_board(self):
        shape = ((2, 4), (0, 6), (0, 6))
        for edge, row in enumerate(("======", "=-==-=", "--==--", "--==--")):
            rot = ("rot", (2, 0, 2, 1, 1, 1))
            self.drawn(shape, (0, edge, 1, 1, 0, RULES), cuts(2), "..==..", row, "######", flaws=(rot,))
            self.drawn(shape, (0, edge, 1, 4, 0, ANY), cuts(2), "..==..", row, "######")
            # A stretch that is too narrow leaves no dust beside it.
            self.drawn(shape, (0, edge, 3, 1, 0, ANY), cuts(2), "..==..", "======", "######")

    def test_twenty_six_boards(self):
        shape = ((0, 2),) * 26
        self.drawn(shape, FREE, cuts(*[1] * 26), *[letter * 2 for letter in "abcdefghijklmnopqrstuvwxyz"])


class ByCells(unittest.TestCase):
    def hold(self, trunk, measures, deeds):
        held = hold_by_cells(self, picture, trunk, measures, deeds)
        if held is not None:
            told, slow = held
            same(self, told, slow.rows(), trunk, measures, deeds)
            wide = max(hi for _, hi in trunk[0])
            self.assertEqual([len(row) for row in told], [wide] * len(trunk[0]))

    def test_every_short_row_of_deeds(self):
        knot = ("knot", (0, 0, 0, 9, 1, 1))
        for shape, flaws in product((SQUARE, AWAY, round_shape(5)), ((), (ROT,), (ROT, knot))):
            for measures in (FREE, (1, 1, 1, 1, 0, RULES), (2, 3, 2, 2, 0, RULES), (0, 2, 1, 3, 0, ANY)):
                for deeds in all_deeds((1, 2), 4):
                    self.hold((shape, 2, flaws), measures, deeds)

    def test_small_shapes(self):
        for shape in small_shapes(3, 3):
            for deeds in ([TURN] + cuts(1, 1), cuts(1) + [TURN] + cuts(1) + [TURN] + cuts(1), cuts(2, 1)):
                self.hold((shape, 1, ()), (0, 1, 1, 1, 0, ANY), deeds)
                self.hold((shape, 1, (ROT,)), (1, 1, 1, 1, 0, RULES), deeds)

    def test_greater_trunks(self):
        flaws = tuple((("knot", "rot")[k % 2], (2 * k, 39 - k, 50 * k, 3, 2, 1 + k)) for k in range(20))
        for shape in (round_shape(40), ((0, 40),) * 40, tuple((k // 2, 20 + k // 2) for k in range(40))):
            for deeds in ((cuts(3) + [TURN]) * 6, cuts(2) * 9, [TURN] + cuts(1, 2) * 4 + [TURN] + cuts(3)):
                for measures in ((1, 2, 3, 1, 0, RULES), (0, 1, 1, 1000, 0, ANY)):
                    self.hold((shape, 1000, flaws), measures, deeds)


class Refused(unittest.TestCase):
    def refused(self, refusal, shape, deeds, measures=FREE):
        hold_refused(self, refusal, picture, (shape, 2, ()), measures, deeds)
        hold_refused(self, refusal, sawn, (shape, 2, ()), measures, deeds)

    def test_one_thicker_than_the_block_is_deep(self):
        for many, deep in ((0, 3), (1, 7), (2, 3), (3, 7)):
            self.refused(("TooThick", deep), AWAY, [TURN] * many + cuts(deep + 1))
        self.refused(("TooThick", 2), SQUARE, cuts(2, 3))

    def test_no_block_is_left(self):
        for next_deed in (TURN, ("cut", 1), ("cut", 5)):
            self.refused(("NoBlock",), SQUARE, cuts(4) + [next_deed])
            self.refused(("NoBlock",), SQUARE, cuts(2) + [next_deed], (3, 0, 1, 1, 0, ANY))

    def test_the_refusal_that_is_told_first(self):
        self.refused(("TooThick", 4), SQUARE, cuts(5, 4) + [TURN, TURN])
        self.refused(("NoBlock",), SQUARE, cuts(4, 1, 9))


class AskedAgain(unittest.TestCase):
    TRUNK = (round_shape(7), 5, (ROT,))

    def test_a_list_that_was_told_is_the_askers_own(self):
        deeds = cuts(2) + [TURN] + cuts(2)
        told = picture(self.TRUNK, FREE, deeds)
        kept = list(told)
        told[0] = "changed"
        told.append("more")
        deeds_kept = list(deeds)
        same(self, picture(self.TRUNK, FREE, deeds), kept)
        self.assertEqual(deeds, deeds_kept)

    def test_nothing_hangs_on_what_was_asked_ahead(self):
        asks = [(self.TRUNK, measures, deeds) for measures in (FREE, (1, 1, 2, 2, 0, RULES))
                for deeds in ([], cuts(1), [TURN] + cuts(2, 1))]
        first = [picture(*ask) for ask in asks]
        hold_refused(self, ("TooThick", 4), picture, (SQUARE, 1, ()), FREE, cuts(5))
        same(self, [picture(*ask) for ask in reversed(asks)], first[::-1])


if __name__ == "__main__":
    unittest.main()
