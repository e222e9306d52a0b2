import unittest
from itertools import permutations, product

from sawtrunk.grades import grade_of, touch

from helper import asked, same

FAR = 10 ** 9
BIG = 10 ** 60
BODY = (2, 3, 4, 2, 2, 2)
AT = ("knot", BODY)
RULES = (("fine", ("knot", "rot"), 0), ("good", ("rot",), 1), ("low", (), 3))


def body_along(axis, first, many):
    """A body with these places along one of the three ways, and others all along the other ones."""
    body = [5, 5, 5, 3, 3, 3]
    body[axis] = first
    body[axis + 3] = many
    return tuple(body)


def cells(body):
    left, top, begin, wide, high, long = body
    return set(product(range(left, left + wide), range(top, top + high), range(begin, begin + long)))


class Touch(unittest.TestCase):
    def both(self, one, other, wanted):
        same(self, asked(self, touch, one, other), wanted, one, other)
        same(self, asked(self, touch, other, one), wanted, other, one)

    def test_along_each_of_the_three_ways(self):
        for axis in range(3):
            one = body_along(axis, 10, 4)
            self.both(one, body_along(axis, 14, 2), False)
            self.both(one, body_along(axis, 13, 2), True)
            self.both(one, body_along(axis, 15, 2), False)
            self.both(one, body_along(axis, 8, 2), False)
            self.both(one, body_along(axis, 9, 2), True)
            self.both(one, body_along(axis, 7, 2), False)
            self.both(one, body_along(axis, 11, 1), True)
            self.both(one, body_along(axis, 0, 100), True)
            self.both(one, body_along(axis, 1000, 1), False)
            self.both(one, one, True)

    def test_all_small_bodies(self):
        other = (1, 2, 1, 2, 1, 3)
        for one in product(range(4), range(4), range(5), (1, 2), (1, 2), (1, 3)):
            self.both(one, other, bool(cells(one) & cells(other)))

    def test_bodies_of_many_cells(self):
        for many in (FAR, BIG):
            for axis in range(3):
                one = body_along(axis, 0, many)
                self.both(one, body_along(axis, many - 1, many), True)
                self.both(one, body_along(axis, many, many), False)
            self.both((0, 0, 0, many, many, many), (many - 1, many - 1, many - 1, 1, 1, 1), True)
            self.both((0, 0, 0, 1000, 1000, 1000), (999, 999, 999, many, many, many), True)
            self.both((0, 0, 0, 1000, 1000, 1000), (999, 999, 1000, many, many, many), False)


class GradeOf(unittest.TestCase):
    def told(self, flaws, rules, wanted):
        same(self, asked(self, grade_of, BODY, flaws, rules), wanted, flaws, rules)

    def test_the_first_rule_that_is_kept(self):
        self.told((), RULES, "fine")
        self.told((("crack", BODY),), RULES, "good")
        self.told((AT,), RULES, "good")
        self.told((("rot", BODY),), RULES, "low")
        self.told((AT, ("crack", BODY)), RULES, "low")
        self.told((AT,) * 3, RULES, "low")

    def test_no_rule_is_kept(self):
        self.told((AT,) * 4, RULES, None)
        self.told((AT,), (("fine", ("knot",), 9),), None)
        self.told((AT,), (("fine", (), 0), ("good", ("rot", "knot"), 5)), None)

    def test_most_just_met_and_passed_by_one(self):
        for most in range(4):
            rules = (("fine", (), most),)
            self.told((AT,) * most, rules, "fine")
            self.told((AT,) * (most + 1), rules, None)
            self.told(tuple((kind, BODY) for kind in "abcd"[:most]), rules, "fine")
            self.told(tuple((kind, BODY) for kind in "abcd"[:most + 1]), rules, None)

    def test_only_flaws_that_touch_count(self):
        away = ("knot", (4, 3, 4, 1, 1, 1))
        beside = ("rot", (2, 3, 6, 9, 9, 9))
        self.told((away, beside, away), RULES, "fine")
        self.told((away, ("crack", BODY), beside), RULES, "good")
        corner = ("knot", (3, 4, 5, 9, 9, 9))
        self.told((corner,), RULES, "good")
        self.told((away, corner, beside, corner), RULES, "low")

    def test_barred_kinds_that_are_alike(self):
        self.told((AT,), (("fine", ("knot", "knot"), 5), ("low", ("rot", "rot"), 1)), "low")
        self.told((("rot", BODY),), (("fine", ("knot", "knot"), 5), ("low", (), 1)), "fine")

    def test_a_kind_is_barred_by_its_whole_name(self):
        self.told((("knot", BODY),), (("fine", ("knots", "kno"), 1),), "fine")

    def test_rules_in_another_order(self):
        for rules in permutations(RULES):
            self.told((), rules, rules[0][0])
            first = [grade for grade, barred, _ in rules if "rot" not in barred][0]
            self.told((("rot", BODY),), rules, first)
            kept = [grade for grade, barred, most in rules if "knot" not in barred and most >= 1][0]
            self.told((AT,), rules, kept)

    def test_flaws_and_bodies_of_many_cells(self):
        wide = (0, 0, 0, FAR, FAR, FAR)
        same(self, grade_of(wide, (("knot", wide),) * 20, (("fine", (), 19), ("low", (), 20))), "low")


if __name__ == "__main__":
    unittest.main()
