import unittest
from itertools import product

from sawtrunk.parting import breadth_of, crossed, long_of, ripped, thick_of
from sawtrunk.sawing import sawn

from helper import asked, hold_refused, parted_by_places, same

ANY = (("low", (), 99),)
RULES = (("fine", ("rot",), 0), ("good", ("rot",), 1), ("low", (), 2))
FREE = (0, 0, 1, 1, 0, ANY)

# Two boards of the same measures, neither of which begins at 0: 6 broad, 2 thick, 9 long.
BY_X = ((3, 5, 7, 6, 2, 9), "x", "good")
BY_Y = ((5, 3, 7, 2, 6, 9), "y", "good")


def flipped(body):
    """The body with x and y changed about."""
    left, top, begin, wide, high, long = body
    return (top, left, begin, high, wide, long)


def with_edge(edge, narrow=1, short=1, rules=ANY):
    return (3, edge, narrow, short, 30, rules)


class Measures(unittest.TestCase):
    def test_thick_breadth_and_long(self):
        for board, wanted in (
            (BY_X, (2, 6, 9)), (BY_Y, (2, 6, 9)),
            (((3, 5, 7, 6, 2, 9), "y", "good"), (6, 2, 9)), (((5, 3, 7, 2, 6, 9), "x", "a"), (6, 2, 9)),
            (((0, 0, 0, 1, 1, 1), "x", "a"), (1, 1, 1)), (((0, 0, 0, 40, 39, 1000), "y", "a"), (40, 39, 1000)),
        ):
            same(self, tuple(asked(self, of, board) for of in (thick_of, breadth_of, long_of)), wanted, board)

    def test_of_boards_of_all_small_measures(self):
        for wide, high, long in product((1, 2, 3), (1, 2, 3), (1, 2, 3)):
            for board in (((4, 9, 0, wide, high, long), "x", "a"), ((9, 4, 0, high, wide, long), "y", "a")):
                same(self, (breadth_of(board), thick_of(board), long_of(board)), (wide, high, long), board)

    def test_of_boards_from_a_trunk(self):
        trunk = (((0, 6), (0, 6), (0, 6)), 5, ())
        for many, wanted in ((0, (2, 6, 5)), (1, (2, 3, 5)), (2, (2, 6, 5)), (3, (2, 3, 5))):
            board = sawn(trunk, FREE, [("turn",)] * many + [("cut", 2)])[0][0]
            same(self, (thick_of(board), breadth_of(board), long_of(board)), wanted, board)


class Both(unittest.TestCase):
    def both(self, function, many, flaws, measures, *wanted):
        """Of both boards; what is wanted is written for the first."""
        same(self, asked(self, function, BY_X, many, flaws, measures), wanted, many, flaws, measures)
        flipped_flaws = tuple((kind, flipped(body)) for kind, body in flaws)
        parts = tuple(None if part is None else (flipped(part[0]), "y", part[2]) for part in wanted[:2])
        told = asked(self, function, BY_Y, many, flipped_flaws, measures)
        same(self, told, parts + wanted[2:], many, flaws, measures)


class Ripped(Both):
    def told(self, *asks):
        self.both(ripped, *asks)

    def part(self, left, wide, grade="low"):
        return ((left, 5, 7, wide, 2, 9), "x", grade)

    def test_the_least_the_greatest_and_amid(self):
        for breadth in range(1, 6):
            one = self.part(3, breadth)
            self.told(breadth, (), with_edge(0), one, self.part(3 + breadth, 6 - breadth), 0, 0)

    def test_edges(self):
        for edge in range(4):
            self.told(1, (), with_edge(edge), self.part(3, 1), self.part(4 + edge, 5 - edge), 0, 18 * edge)

    def test_an_edge_of_which_not_all_places_are_there(self):
        for edge, dust in ((1, 18), (2, 18), (3, 18)):
            self.told(5, (), with_edge(edge), self.part(3, 5), None, 0, dust)
        for edge, dust in ((2, 36), (3, 36)):
            self.told(4, (), with_edge(edge), self.part(3, 4), None, 0, dust)
        self.told(4, (), with_edge(1), self.part(3, 4), self.part(8, 1), 0, 18)
        self.told(3, (), with_edge(3), self.part(3, 3), None, 0, 54)

    def test_just_as_narrow_and_one_narrower(self):
        self.told(2, (), with_edge(1, 2), self.part(3, 2), self.part(6, 3), 0, 18)
        self.told(2, (), with_edge(1, 3), None, self.part(6, 3), 36, 18)
        self.told(3, (), with_edge(1, 3), self.part(3, 3), None, 36, 18)
        self.told(2, (), with_edge(1, 4), None, None, 90, 18)
        self.told(2, (), with_edge(1, 10 ** 6), None, None, 90, 18)
        # Thick bars nothing: only a part's breadth is asked.
        self.told(3, (), with_edge(0, 3), self.part(3, 3), self.part(6, 3), 0, 0)

    def test_just_as_short_and_one_shorter(self):
        self.told(2, (), with_edge(1, 1, 9), self.part(3, 2), self.part(6, 3), 0, 18)
        self.told(2, (), with_edge(1, 1, 10), None, None, 90, 18)

    def test_the_grade_anew(self):
        knot = ("knot", (3, 5, 7, 1, 1, 1))
        rot = ("rot", (7, 6, 15, 1, 1, 1))
        measures = with_edge(1, rules=RULES)
        self.told(2, (), measures, self.part(3, 2, "fine"), self.part(6, 3, "fine"), 0, 18)
        self.told(2, (knot,), measures, self.part(3, 2, "good"), self.part(6, 3, "fine"), 0, 18)
        self.told(2, (knot, rot), measures, self.part(3, 2, "good"), self.part(6, 3, "low"), 0, 18)
        self.told(2, (rot, rot, knot, knot), measures, self.part(3, 2, "low"), self.part(6, 3, "low"), 0, 18)
        self.told(2, (rot, rot, rot, knot), measures, self.part(3, 2, "good"), None, 54, 18)
        self.told(2, (knot, rot, knot, knot), measures, None, self.part(6, 3, "low"), 36, 18)

    def test_flaws_in_the_dust_and_beside(self):
        measures = with_edge(1, rules=RULES)
        dust = ("rot", (5, 5, 7, 1, 2, 9))
        beside = (("rot", (0, 5, 7, 3, 2, 9)), ("rot", (9, 5, 7, 9, 2, 9)), ("rot", (3, 7, 7, 6, 9, 9)),
                  ("rot", (3, 5, 16, 6, 2, 9)), ("rot", (3, 5, 0, 6, 2, 7)))
        self.told(2, (dust,) + beside, measures, self.part(3, 2, "fine"), self.part(6, 3, "fine"), 0, 18)
        self.told(2, (dust, dust), with_edge(0, rules=RULES), self.part(3, 2, "fine"), self.part(5, 4, "low"), 0, 0)

    def test_no_part_is_a_board(self):
        rot = ("rot", (0, 0, 0, 99, 99, 99))
        self.told(2, (rot,), with_edge(1, rules=RULES[:2]), None, None, 90, 18)
        self.told(5, (rot,), with_edge(3, rules=RULES[:2]), None, None, 90, 18)


class Crossed(Both):
    def told(self, *asks):
        self.both(crossed, *asks)

    def part(self, begin, long, grade="low"):
        return ((3, 5, begin, 6, 2, long), "x", grade)

    def test_the_least_the_greatest_and_amid(self):
        for long in range(1, 9):
            self.told(long, (), with_edge(0), self.part(7, long), self.part(7 + long, 9 - long), 0, 0)

    def test_edges(self):
        # By the edger: the saw, 3, counts for nothing here.
        for edge in range(4):
            self.told(4, (), with_edge(edge), self.part(7, 4), self.part(11 + edge, 5 - edge), 0, 12 * edge)

    def test_an_edge_of_which_not_all_places_are_there(self):
        for edge in (1, 2, 3):
            self.told(8, (), with_edge(edge), self.part(7, 8), None, 0, 12)
        for edge in (2, 3):
            self.told(7, (), with_edge(edge), self.part(7, 7), None, 0, 24)
        self.told(7, (), with_edge(1), self.part(7, 7), self.part(15, 1), 0, 12)
        self.told(6, (), with_edge(3), self.part(7, 6), None, 0, 36)

    def test_just_as_short_and_one_shorter(self):
        self.told(3, (), with_edge(1, 1, 3), self.part(7, 3), self.part(11, 5), 0, 12)
        self.told(3, (), with_edge(1, 1, 4), None, self.part(11, 5), 36, 12)
        self.told(5, (), with_edge(1, 1, 4), self.part(7, 5), None, 36, 12)
        self.told(3, (), with_edge(1, 1, 6), None, None, 96, 12)

    def test_just_as_narrow_and_one_narrower(self):
        self.told(3, (), with_edge(1, 6), self.part(7, 3), self.part(11, 5), 0, 12)
        self.told(3, (), with_edge(1, 7), None, None, 96, 12)

    def test_the_grade_anew(self):
        knot = ("knot", (3, 5, 7, 1, 1, 3))
        rot = ("rot", (8, 6, 15, 9, 9, 1))
        measures = with_edge(2, rules=RULES)
        self.told(3, (), measures, self.part(7, 3, "fine"), self.part(12, 4, "fine"), 0, 24)
        self.told(3, (knot,), measures, self.part(7, 3, "good"), self.part(12, 4, "fine"), 0, 24)
        self.told(3, (knot, rot), measures, self.part(7, 3, "good"), self.part(12, 4, "low"), 0, 24)
        self.told(3, (rot, rot, rot, knot), measures, self.part(7, 3, "good"), None, 48, 24)
        dust = ("rot", (3, 5, 10, 6, 2, 2))
        self.told(3, (dust, dust), measures, self.part(7, 3, "fine"), self.part(12, 4, "fine"), 0, 24)


class ByPlaces(unittest.TestCase):
    BODIES = ((3, 5, 7, 4, 2, 5), (0, 0, 0, 3, 4, 4), (1, 0, 999, 2, 5, 3), (0, 2, 0, 1, 1, 1))
    FLAWS = (
        (), (("knot", (3, 5, 7, 1, 1, 2)), ("rot", (2, 3, 1, 3, 9, 7))), (("rot", (0, 0, 0, 9, 4, 2)),) * 3,
        (("knot", (5, 5, 9, 1, 1, 1)), ("knot", (1, 1, 2, 1, 1, 1)), ("rot", (2, 4, 1000, 1, 1, 1))),
    )

    def hold(self, function, axis, board, refusal, flaws, measures):
        whole = board[0][axis + 3]
        for many in range(1, whole):
            wanted = parted_by_places(board, axis, many, flaws, measures)
            told = asked(self, function, board, many, flaws, measures)
            same(self, told, wanted, board, many, flaws, measures)
            cells = [part[0][3] * part[0][4] * part[0][5] for part in told[:2] if part is not None]
            self.assertEqual(sum(cells) + told[2] + told[3], board[0][3] * board[0][4] * board[0][5])
        for many in (whole, whole + 1, 10 ** 6):
            hold_refused(self, (refusal, whole), function, board, many, flaws, measures)

    def test_small_boards_in_all_ways(self):
        for body, way, flaws in product(self.BODIES, "xy", self.FLAWS):
            board = (body, way, "good")
            for edge, narrow, short, rules in product(range(4), (1, 2, 3), (1, 3), (ANY, RULES, RULES[:2])):
                measures = with_edge(edge, narrow, short, rules)
                self.hold(ripped, "xy".index(way), board, "TooBroad", flaws, measures)
                self.hold(crossed, 2, board, "TooLong", flaws, measures)

    def test_great_boards(self):
        flaws = tuple((("knot", "rot")[k % 2], (2 * k, 39 - k, 50 * k, 3, 2, 1 + k)) for k in range(20))
        board = ((0, 0, 0, 40, 40, 1000), "x", "low")
        for rules in (ANY, RULES, (("fine", ("rot",), 0), ("good", (), 9), ("low", (), 15))):
            for edge in (0, 3):
                measures = with_edge(edge, 4, 100, rules)
                for breadth in range(1, 40):
                    wanted = parted_by_places(board, 0, breadth, flaws, measures)
                    same(self, asked(self, ripped, board, breadth, flaws, measures), wanted)
                for long in (1, 99, 100, 500, 897, 900, 901, 996, 999):
                    wanted = parted_by_places(board, 2, long, flaws, measures)
                    same(self, asked(self, crossed, board, long, flaws, measures), wanted)

    def test_the_boards_own_grade_counts_for_nothing(self):
        knot = (("knot", (3, 5, 7, 1, 1, 1)),)
        measures = with_edge(1, rules=RULES)
        for function in (ripped, crossed):
            told = [function((BY_X[0], "x", grade), 2, knot, measures) for grade in ("fine", "good", "low", "other")]
            self.assertEqual([(part[0][2], part[1][2]) for part in told], [("good", "fine")] * 4)

    def test_boards_that_are_no_boards_by_the_measures(self):
        measures = with_edge(0, 7, 10)
        same(self, ripped(BY_X, 5, (), measures), (None, None, 108, 0))
        same(self, crossed(BY_Y, 5, (), measures), (None, None, 108, 0))


class Refused(unittest.TestCase):
    def test_a_breadth_that_is_no_less(self):
        for board in (BY_X, BY_Y):
            for breadth in (6, 7, 9, 10, 10 ** 6):
                hold_refused(self, ("TooBroad", 6), ripped, board, breadth, (), with_edge(1))
            self.assertIsNotNone(ripped(board, 5, (), with_edge(0))[1])

    def test_a_long_that_is_no_less(self):
        for board in (BY_X, BY_Y):
            for long in (9, 10, 10 ** 6):
                hold_refused(self, ("TooLong", 9), crossed, board, long, (), with_edge(1))
            self.assertIsNotNone(crossed(board, 8, (), with_edge(0))[1])

    def test_the_bound_of_the_one_does_not_bar_the_other(self):
        same(self, crossed(BY_X, 7, (), with_edge(0))[:2],
             (((3, 5, 7, 6, 2, 7), "x", "low"), ((3, 5, 14, 6, 2, 2), "x", "low")))
        flat = ((3, 5, 7, 6, 2, 3), "x", "low")
        same(self, ripped(flat, 4, (), with_edge(0))[:2],
             (((3, 5, 7, 4, 2, 3), "x", "low"), ((7, 5, 7, 2, 2, 3), "x", "low")))
        hold_refused(self, ("TooLong", 3), crossed, flat, 4, (), with_edge(0))

    def test_boards_of_one_cell(self):
        for way in "xy":
            board = ((3, 5, 7, 1, 1, 1), way, "low")
            hold_refused(self, ("TooBroad", 1), ripped, board, 1, (), with_edge(0))
            hold_refused(self, ("TooLong", 1), crossed, board, 1, (), with_edge(0))


class AskedAgain(unittest.TestCase):
    def test_nothing_hangs_on_what_was_asked_ahead(self):
        asks = [(board, many, (("knot", (3, 5, 7, 1, 1, 1)),), with_edge(edge, rules=RULES))
                for board in (BY_X, BY_Y) for many in (1, 3, 5) for edge in (0, 2)]
        for function, other in ((ripped, crossed), (crossed, ripped)):
            first = [function(*ask) for ask in asks]
            for ask in asks:
                other(*ask)
            hold_refused(self, ("TooBroad", 6), ripped, BY_X, 6, (), FREE)
            same(self, [function(*ask) for ask in reversed(asks)], first[::-1])


if __name__ == "__main__":
    unittest.main()
