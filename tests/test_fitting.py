import unittest
from itertools import permutations, product

from sawtrunk.fitlooks import most_holds
from sawtrunk.fitting import fits, most

from helper import asked, board, hold_soon, names, same

RULES = (("fine", (), 0), ("good", ("rot",), 3), ("low", (), 9))
GRADES = ("fine", "good", "low")


def board_of_breadth(breadth):
    return board("good", 2, breadth, 9)


def order_of_breadth(breadth):
    return ("good", 2, breadth, 9)


def most_by_tries(orders, boards, rules):
    """How many orders can be filled, by dealing out boards in all ways."""
    if not orders:
        return 0
    name = sorted(orders)[0]
    others = {other: orders[other] for other in orders if other != name}
    counts = [most_by_tries(others, boards, rules)]
    for taken in boards:
        if fits(boards[taken], orders[name], rules):
            left = {other: boards[other] for other in boards if other != taken}
            counts.append(1 + most_by_tries(others, left, rules))
    return max(counts)


class Fits(unittest.TestCase):
    def told(self, wanted, one, order, rules=RULES):
        self.assertIs(asked(self, fits, one, order, rules), wanted, (one, order))

    def test_just_the_orders_one_more_and_one_less(self):
        for way in "xy":
            for thick, breadth, long in product((2, 3, 4), (5, 6, 7), (8, 9, 10)):
                wanted = thick == 3 and breadth >= 6 and long >= 9
                self.told(wanted, board("good", thick, breadth, long, way), ("good", 3, 6, 9))

    def test_measures_as_great_as_may_be(self):
        self.told(True, board("good", 1, 1, 1), ("good", 1, 1, 1))
        self.told(True, board("good", 40, 40, 1000), ("low", 40, 1, 1))
        self.told(False, board("good", 40, 40, 1000), ("low", 40, 10 ** 6, 1))
        self.told(False, board("good", 40, 40, 1000), ("low", 40, 1, 10 ** 6))
        self.told(False, board("good", 40, 40, 1000), ("low", 10 ** 6, 1, 1))

    def test_breadth_and_thick_by_the_way(self):
        body = (0, 0, 0, 6, 2, 9)
        self.told(True, (body, "x", "good"), ("good", 2, 6, 9))
        self.told(False, (body, "y", "good"), ("good", 2, 6, 9))
        self.told(True, (body, "y", "good"), ("good", 6, 2, 9))

    def test_grades(self):
        for one, other in product(GRADES, GRADES):
            self.told(GRADES.index(one) <= GRADES.index(other), board(one, 2, 6, 9), (other, 2, 6, 9))

    def test_grades_in_the_order_of_the_rules(self):
        for rules in permutations(RULES):
            order = [rule[0] for rule in rules]
            for one, other in product(GRADES, GRADES):
                self.told(order.index(one) <= order.index(other), board(one, 2, 6, 9), (other, 2, 6, 9), rules)

    def test_a_grade_in_no_rule(self):
        for grade in GRADES:
            self.told(False, board("other", 2, 6, 9), (grade, 2, 6, 9))
            self.told(False, board(grade, 2, 6, 9), ("other", 2, 6, 9))
            self.told(grade == "good", board(grade, 2, 6, 9), ("good", 2, 6, 9), (("good", (), 9),))
        self.told(False, board("other", 2, 6, 9), ("other", 2, 6, 9))
        # A kind that a rule bars is no grade.
        self.told(False, board("rot", 2, 6, 9), ("rot", 2, 6, 9))


class MostCase(unittest.TestCase):
    def hold(self, orders, boards, rules=RULES, wanted=None):
        """What is told is a paper that holds, of just so many pairs."""
        told = asked(self, most, orders, boards, rules)
        self.assertIs(most_holds(orders, boards, rules, told), True, (orders, boards, told))
        pairs, cover = told
        for row in (told, pairs, cover, cover[0], cover[1], *pairs):
            self.assertIsInstance(row, tuple)
        for row in (pairs, cover[0], cover[1]):
            self.assertEqual(list(row), sorted(set(row)))
        for order, one in pairs:
            self.assertTrue(fits(boards[one], orders[order], rules))
        self.assertEqual(len({order for order, _ in pairs}), len(pairs))
        self.assertEqual(len({one for _, one in pairs}), len(pairs))
        self.assertEqual(len(pairs), len(cover[0]) + len(cover[1]))
        for order, one in product(orders, boards):
            self.assertTrue(not fits(boards[one], orders[order], rules) or order in cover[0] or one in cover[1])
        if wanted is not None:
            self.assertEqual(len(pairs), wanted)
        return told


class Most(MostCase):
    def test_none(self):
        same(self, self.hold({}, {}), ((), ((), ())))
        same(self, self.hold({"a": order_of_breadth(1)}, {}), ((), ((), ())))
        same(self, self.hold({}, {"a": board_of_breadth(1)}), ((), ((), ())))
        same(self, self.hold({"a": order_of_breadth(2)}, {"a": board_of_breadth(1)}), ((), ((), ())))

    def test_one_of_each_and_of_one_name(self):
        for order, one in (("a", "a"), ("a", "b"), ("zz", "b")):
            told = self.hold({order: order_of_breadth(2)}, {one: board_of_breadth(2)}, RULES, 1)
            self.assertEqual(told[0], ((order, one),))
            self.assertIn(told[1], (((order,), ()), ((), (one,))))

    def test_all_small_ways_to_fit(self):
        # Boards of breadths and longs: those that fit an order are no row that rises by one measure alone.
        kinds = [("good", 2, breadth, long) for breadth, long in ((1, 3), (2, 2), (3, 1), (2, 3))]
        for wanted, there in product(product(kinds, repeat=3), product(kinds, repeat=2)):
            orders = dict(zip("abc", wanted))
            boards = {name: board(*kind) for name, kind in zip("ab", there)}
            self.hold(orders, boards, RULES, most_by_tries(orders, boards, RULES))

    def test_grades_and_thicks(self):
        orders = {"a": ("fine", 2, 1, 1), "b": ("good", 2, 1, 1), "c": ("low", 2, 1, 1), "d": ("low", 3, 1, 1)}
        for grades in product(GRADES, repeat=3):
            boards = {name: board(grade, 2 + k // 2, 5, 5) for k, (name, grade) in enumerate(zip("xyz", grades))}
            self.hold(orders, boards, RULES, most_by_tries(orders, boards, RULES))

    def test_names_in_another_order(self):
        orders = {name: order_of_breadth(breadth) for name, breadth in (("b", 2), ("a", 3), ("d", 2), ("c", 9))}
        boards = {name: board_of_breadth(breadth) for name, breadth in (("x", 3), ("w", 2), ("v", 4), ("y", 2))}
        first = self.hold(orders, boards, RULES, 3)
        for some in permutations(orders):
            for others in permutations(boards):
                told = most({name: orders[name] for name in some}, {name: boards[name] for name in others}, RULES)
                same(self, told, first)

    def test_a_chain_in_which_a_pair_changes_many(self):
        # Each order fits boards of its own breadth and the next, and the last one the first breadth alone.
        for many in (2, 3, 8, 30):
            orders = {}
            boards = {}
            for k, name in enumerate(names(many, "o")):
                orders[name] = ("good", 2, many - k, k + 1)
                boards[names(many, "b")[k]] = board("good", 2, many - k, k + 1)
            for turned in (False, True):
                some = dict(reversed(orders.items())) if turned else orders
                hold_soon(self, self.hold, some, boards, RULES, many)


class Great(MostCase):
    """Thirty orders and sixty boards, soon."""

    def test_each_fits_all(self):
        orders = {name: order_of_breadth(2) for name in names(30, "o")}
        boards = {name: board_of_breadth(2) for name in names(60, "b")}
        hold_soon(self, self.hold, orders, boards, RULES, 30)
        self.hold(orders, {name: boards[name] for name in list(boards)[:29]}, RULES, 29)

    def test_each_fits_nearly_all_and_not_all_can_be_filled(self):
        for many in (1, 5, 29):
            orders = {name: order_of_breadth(1 if k < 10 else 2) for k, name in enumerate(names(30, "o"))}
            boards = {name: board_of_breadth(2 if k < many else 1) for k, name in enumerate(names(60, "b"))}
            hold_soon(self, self.hold, orders, boards, RULES, 10 + min(many, 20))

    def test_one_breadth_more_each(self):
        # The k-th order fits all boards from the k-th on; told in such an order that what is given first is wrong.
        orders = {name: order_of_breadth(k + 1) for k, name in enumerate(names(30, "o"))}
        boards = {name: board_of_breadth(30 - k // 2) for k, name in enumerate(names(60, "b"))}
        hold_soon(self, self.hold, orders, boards, RULES, 30)
        scarce = {name: board_of_breadth(30 - k) for k, name in enumerate(names(30, "b"))}
        hold_soon(self, self.hold, orders, scarce, RULES, 30)
        scarce["baa"] = board_of_breadth(29)
        hold_soon(self, self.hold, orders, scarce, RULES, 29)

    def test_crossing_chains(self):
        # Boards broader are shorter: an order fits a window of boards.
        for wide in (0, 1, 2, 5):
            orders = {name: ("good", 2, k + 1, 61 - 2 * k - wide) for k, name in enumerate(names(30, "o"))}
            boards = {name: board("good", 2, k // 2 + 1, 61 - k) for k, name in enumerate(names(60, "b"))}
            hold_soon(self, self.hold, orders, boards, RULES)
            fewer = {name: boards[name] for k, name in enumerate(boards) if k % 4 == 0}
            hold_soon(self, self.hold, orders, fewer, RULES)


class AskedAgain(unittest.TestCase):
    def test_nothing_hangs_on_what_was_asked_ahead(self):
        asks = [
            ({"a": order_of_breadth(k), "b": order_of_breadth(m)}, {"a": board_of_breadth(2), "c": board_of_breadth(3)})
            for k in range(1, 5) for m in range(1, 5)
        ]
        first = [most(orders, boards, RULES) for orders, boards in asks]
        again = [most(orders, boards, RULES) for orders, boards in reversed(asks)]
        same(self, again, first[::-1])

    def test_dicts_that_are_changed_later(self):
        orders = {"a": order_of_breadth(2)}
        boards = {"b": board_of_breadth(2)}
        told = most(orders, boards, RULES)
        kept = repr(told)
        orders.clear()
        boards["c"] = board_of_breadth(9)
        self.assertEqual(repr(told), kept)
        same(self, most(orders, boards, RULES), ((), ((), ())))


if __name__ == "__main__":
    unittest.main()
