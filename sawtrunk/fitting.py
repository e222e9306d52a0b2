"""Orders (grade, thick, breadth, long), what fits them, and the most of them that boards can fill."""

from sawtrunk.pairing import paper_of
from sawtrunk.parting import breadth_of, long_of, thick_of


def fits(board, order, rules):
    """Whether the board fits the order."""
    return misfit(board, order, rules) is None


def misfit(board, order, rules):
    """The first word by which the board doesn't fit the order; None where it fits."""
    grade, thick, breadth, long = order
    if not _is_good_enough(board[2], grade, rules):
        return "grade"
    if thick_of(board) != thick:
        return "thick"
    if breadth_of(board) < breadth:
        return "breadth"
    if long_of(board) < long:
        return "long"
    return None


def _is_good_enough(grade, wanted, rules):
    """Whether a grade stands in the rules at the wanted one or ahead of it."""
    grades = [rule[0] for rule in rules]
    return grade in grades and wanted in grades and grades.index(grade) <= grades.index(wanted)


def most(orders, boards, rules):
    """The paper of the most orders that can be filled, each by another board that fits it."""
    return paper_of({
        name: [board for board in sorted(boards) if fits(boards[board], orders[name], rules)]
        for name in sorted(orders)
    })
