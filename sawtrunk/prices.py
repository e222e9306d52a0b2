"""Prices, rows (grade, thick, breadth, worth), and what a board is worth by them."""

from sawtrunk.parting import breadth_of, thick_of


def worth_of(board, prices):
    """The greatest worth of a row that the board meets; 0 where it meets none."""
    thick = thick_of(board)
    breadth = breadth_of(board)
    grade = board[2]
    return max([row[3] for row in prices if row[0] == grade and row[1] == thick and row[2] <= breadth], default=0)
