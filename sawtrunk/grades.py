"""Bodies (left, top, begin, wide, high, long), the flaws that touch them, and their grades."""


def touch(one, other):
    """Whether two bodies have a cell in common."""
    return all([_meet(one[k], one[k + 3], other[k], other[k + 3]) for k in range(3)])


def _meet(first, many, begin, count):
    """Whether many places from first on and count places from begin on have one in common."""
    return first < begin + count and begin < first + many


def grade_of(body, flaws, rules):
    """The grade of the first rule that the body keeps; None where it keeps none."""
    kinds = [kind for kind, where in flaws if touch(body, where)]
    for grade, barred, most in rules:
        if len(kinds) <= most and not any([kind in barred for kind in kinds]):
            return grade
    return None
