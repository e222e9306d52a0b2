import unittest
from itertools import permutations, product

from sawtrunk.prices import worth_of
from sawtrunk.sawing import sawn

from helper import asked, same

# Boards of both ways that are 6 broad, 2 thick and 9 long.
BOARDS = (((3, 5, 7, 6, 2, 9), "x", "good"), ((5, 3, 7, 2, 6, 9), "y", "good"))
MOST = 10 ** 12


class Worth(unittest.TestCase):
    def told(self, prices, wanted):
        for board in BOARDS:
            same(self, asked(self, worth_of, board, prices), wanted, board, prices)

    def test_no_prices(self):
        self.told((), 0)

    def test_a_row_that_is_met(self):
        self.told((("good", 2, 6, 7),), 7)
        self.told((("good", 2, 1, 7),), 7)

    def test_a_row_of_another_grade(self):
        for grade in ("fine", "goods", "goo", "a"):
            self.told(((grade, 2, 1, 7),), 0)

    def test_a_row_of_another_thick(self):
        for thick in (1, 3, 6, 9, 10 ** 6):
            self.told((("good", thick, 1, 7),), 0)

    def test_a_breadth_just_the_boards_and_one_more(self):
        for breadth, wanted in ((1, 7), (2, 7), (5, 7), (6, 7), (7, 0), (9, 0), (10 ** 6, 0)):
            self.told((("good", 2, breadth, 7),), wanted)

    def test_the_greatest_worth_of_several_that_are_met(self):
        rows = (("good", 2, 6, 4), ("good", 2, 1, 9), ("good", 2, 3, 6))
        for prices in permutations(rows):
            self.told(prices, 9)
        # Not the broadest one, nor the one told first or last.
        self.told(rows[:1] + rows[2:], 6)
        self.told(rows[::2][::-1], 6)
        self.told(rows + rows, 9)

    def test_rows_that_are_met_among_others(self):
        others = (("fine", 2, 1, 99), ("good", 3, 1, 98), ("good", 2, 7, 97), ("fine", 3, 7, 96))
        self.told(others, 0)
        for k in range(5):
            self.told(others[:k] + (("good", 2, 6, 5),) + others[k:], 5)
            self.told(others[:k] + (("good", 2, 6, 0),) + others[k:], 0)

    def test_bounds_of_worth_and_of_rows(self):
        for worth in (0, 1, MOST - 1, MOST):
            self.told((("good", 2, 6, worth),), worth)
        self.told(tuple(("good", 2, k, MOST - k) for k in range(30, 0, -1)), MOST - 1)
        self.told(tuple(("good", 2, k, MOST + k) for k in range(1, 31)), MOST + 6)

    def test_the_long_counts_for_nothing(self):
        for long in (1, 2, 6, 1000):
            board = ((0, 0, 0, 6, 2, long), "x", "good")
            same(self, worth_of(board, (("good", 2, 6, 7), ("good", long, 1, 9))), 9 if long == 2 else 7, long)
            same(self, worth_of(board, (("good", 2, 7, 7),)), 0, long)

    def test_all_small_boards_and_rows(self):
        rows = tuple((grade, thick, breadth, 100 * thick + 10 * breadth + len(grade))
                     for grade in ("fine", "low") for thick in (1, 2) for breadth in (1, 2, 3))
        for wide, high, way, grade in product((1, 2, 3), (1, 2, 3), "xy", ("fine", "low", "other")):
            broad, thick = (wide, high) if way == "x" else (high, wide)
            met = [row[3] for row in rows if row[0] == grade and row[1] == thick and row[2] <= broad]
            wanted = max(met) if met else 0
            same(self, asked(self, worth_of, ((1, 2, 3, wide, high, 4), way, grade), rows), wanted)

    def test_boards_from_a_trunk(self):
        trunk = (((0, 6), (0, 6), (0, 6)), 5, ())
        measures = (0, 0, 1, 1, 0, (("low", (), 9),))
        prices = (("low", 2, 3, 5), ("low", 2, 4, 8), ("low", 1, 1, 2))
        for many, wanted in ((0, [8, 2]), (1, [5, 2]), (2, [8, 2]), (3, [5, 2])):
            boards = sawn(trunk, measures, [("turn",)] * many + [("cut", 2), ("cut", 1)])[0]
            self.assertEqual([worth_of(board, prices) for board in boards], wanted)


class AskedAgain(unittest.TestCase):
    def test_nothing_hangs_on_what_was_asked_ahead(self):
        prices = [(("good", 2, breadth, worth),) for breadth in (5, 6, 7) for worth in (0, 8)]
        asks = list(product(BOARDS, prices))
        first = [worth_of(*ask) for ask in asks]
        same(self, [worth_of(*ask) for ask in reversed(asks)], first[::-1])


if __name__ == "__main__":
    unittest.main()
