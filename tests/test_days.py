"""What a mill tells of each day: promises 28 and 29."""

import unittest
from copy import deepcopy

from sawtrunk.fitlooks import most_holds
from sawtrunk.fitting import most
from sawtrunk.mill import Mill

from helper import asked, hold_refused, hold_soon, mill_of, names, same, told

RULES = (("fine", ("rot",), 0), ("good", (), 1), ("low", (), 9))
FREE = (0, 0, 1, 1, 2, RULES)
EDGED = (1, 1, 1, 1, 2, RULES)
TRUNK = (((0, 6),) * 4, 10, ())
ROUND = (((2, 4), (0, 6), (0, 6), (1, 5)), 10, ())
LAST = 10 ** 6

ENTRIES = (
    (3, ("trunk", "t", TRUNK)), (5, ("cut", "t", 1, "b")), (5, ("stack", "s", "b")), (7, ("cut", "t", 1, "c")),
    (7, ("stack", "s", "c")), (9, ("off", "c")), (9, ("order", "o", 12, "low", 1, 4, 4)), (10, ("fill", "o", "c")),
)
B = ((0, 0, 0, 6, 1, 10), "x", "fine")
C = ((0, 1, 0, 6, 1, 10), "x", "fine")


class Days(unittest.TestCase):
    """Each question at each day: ahead of all entries, between them, and behind them."""

    def hold(self, question, wanted, *things):
        """By days from which on it is told, the answers."""
        mill = mill_of(FREE, *ENTRIES)
        for (first, answer), (behind, _) in zip(wanted, wanted[1:] + [(21, None)]):
            for day in range(first, behind):
                same(self, asked(self, getattr(mill, question), day, *things), answer, day)
        same(self, getattr(mill, question)(LAST, *things), wanted[-1][1])

    def test_ahead_of_all_entries(self):
        for mill in (Mill(FREE), mill_of(FREE, *ENTRIES)):
            for day in (1, 2):
                for question in (mill.boards, mill.given, mill.stacks, mill.orders):
                    same(self, asked(self, question, day), {})
                same(self, asked(self, mill.could, day), ((), ((), ())))
                hold_refused(self, ("NoTrunk", "t"), mill.block, day, "t")
                hold_refused(self, ("NoTrunk", "t"), mill.wood, day, "t")

    def test_boards(self):
        mill = mill_of(FREE, *ENTRIES)
        for day, wanted in (
            (3, {}), (4, {}), (5, {"b": ("t", B, 0, "s")}), (6, {"b": ("t", B, 1, "s")}),
            (7, {"b": ("t", B, 2, "s"), "c": ("t", C, 0, "s")}), (8, {"b": ("t", B, 3, "s"), "c": ("t", C, 1, "s")}),
            (9, {"b": ("t", B, 4, "s"), "c": ("t", C, 2, None)}), (10, {"b": ("t", B, 5, "s")}),
            (11, {"b": ("t", B, 6, "s")}), (LAST, {"b": ("t", B, LAST - 5, "s")}),
        ):
            same(self, asked(self, mill.boards, day), wanted, day)

    def test_given(self):
        self.hold("given", [(1, {}), (10, {"o": ("c", C)})])

    def test_stacks(self):
        self.hold("stacks", [(1, {}), (5, {"s": ["b"]}), (7, {"s": ["b", "c"]}), (9, {"s": ["b"]})])

    def test_orders(self):
        self.hold("orders", [(1, {}), (9, {"o": (12, ("low", 1, 4, 4))}), (10, {})])

    def test_orders_whose_day_is_past(self):
        mill = mill_of(FREE, (4, ("order", "o", 2, "low", 1, 1, 1)), (4, ("order", "p", 6, "fine", 3, 2, 1)))
        for day in (4, 5, 6, 7, LAST):
            same(self, mill.orders(day), {"o": (2, ("low", 1, 1, 1)), "p": (6, ("fine", 3, 2, 1))})

    def test_block_and_wood(self):
        mill = mill_of(FREE, *ENTRIES)
        for day, block, wood in (
            (3, ((0, 0, 6, 4), "above"), (0, 0, 0, 240)), (4, ((0, 0, 6, 4), "above"), (0, 0, 0, 240)),
            (5, ((0, 1, 6, 3), "above"), (60, 0, 0, 180)), (7, ((0, 2, 6, 2), "above"), (120, 0, 0, 120)),
            # The board given out is among the boards.
            (10, ((0, 2, 6, 2), "above"), (120, 0, 0, 120)), (LAST, ((0, 2, 6, 2), "above"), (120, 0, 0, 120)),
        ):
            same(self, asked(self, mill.block, day, "t"), block)
            same(self, asked(self, mill.wood, day, "t"), wood)

    def test_no_block_left(self):
        mill = mill_of(FREE, (3, ("trunk", "t", TRUNK)), (5, ("cut", "t", 4, "b")))
        same(self, mill.block(4, "t"), ((0, 0, 6, 4), "above"))
        for day in (5, 6, LAST):
            same(self, mill.block(day, "t"), None)
            same(self, mill.wood(day, "t"), (240, 0, 0, 0))

    def test_wood_of_several_trunks(self):
        mill = mill_of(
            EDGED, (1, ("trunk", "t", ROUND)), (2, ("trunk", "u", TRUNK)), (3, ("cut", "t", 2, "b")),
            (3, ("cut", "u", 1, "c")), (4, ("rip", "c", 2, "d")), (5, ("cross", "d", 9, "e")), (6, ("turn", "t")),
        )
        same(self, mill.wood(3, "t"), (40, 20, 80, 40))
        same(self, mill.wood(3, "u"), (60, 0, 60, 120))
        same(self, mill.wood(4, "u"), (50, 0, 70, 120))
        same(self, mill.wood(5, "u"), (47, 0, 73, 120))
        same(self, mill.wood(9, "t"), (40, 20, 80, 40))
        hold_refused(self, ("NoTrunk", "u"), mill.wood, 1, "u")
        hold_refused(self, ("NoTrunk", "u"), mill.block, 1, "u")
        hold_refused(self, ("NoTrunk", "b"), mill.wood, 9, "b")
        hold_refused(self, ("NoTrunk", "b"), mill.block, 9, "b")

    def test_entries_of_the_same_day_are_told_of(self):
        mill = mill_of(FREE, *[(4, deed) for _, deed in ENTRIES[:5]])
        same(self, mill.stacks(3), {})
        same(self, mill.stacks(4), {"s": ["b", "c"]})
        same(self, [row[2] for row in mill.boards(4).values()], [0, 0])
        same(self, [row[2] for row in mill.boards(6).values()], [2, 2])


class Could(unittest.TestCase):
    """What could be filled: slow is 2, so a board of 1 is dry behind 2 nights."""

    BEGIN = ((1, ("trunk", "t", TRUNK)), (2, ("cut", "t", 1, "b")))

    def told(self, wanted, day, *entries, measures=FREE):
        """The paper of a day; wanted are its pairs, or how many where they may be others, too."""
        mill = mill_of(measures, *self.BEGIN, *entries)
        paper = asked(self, mill.could, day)
        if isinstance(wanted, int):
            self.assertEqual(len(paper[0]), wanted)
        else:
            self.assertEqual(paper[0], wanted)
        self.assertEqual(len(paper[0]), len(paper[1][0]) + len(paper[1][1]))
        for row in (paper, *paper, *paper[1], *paper[0]):
            self.assertIsInstance(row, tuple)
        return paper

    def test_wet_boards_off_a_stack(self):
        order = (2, ("order", "o", 50, "low", 1, 1, 1))
        for day in (2, 10, 50):
            self.told((), day, order)
        self.told((("o", "b"),), 2, order, measures=FREE[:4] + (0, RULES))

    def test_boards_on_a_stack_that_are_dry_by_the_orders_day(self):
        stack = (2, ("stack", "s", "b"))
        for last, wanted in ((2, ()), (3, ()), (4, (("o", "b"),)), (5, (("o", "b"),)), (LAST, (("o", "b"),))):
            order = (2, ("order", "o", last, "low", 1, 1, 1))
            for day in (2, 3, 4, 5):
                self.told(wanted if day <= last else (), day, stack, order)

    def test_boards_taken_off(self):
        for off, wanted in ((2, ()), (3, ()), (4, (("o", "b"),)), (9, (("o", "b"),))):
            deeds = ((2, ("stack", "s", "b")), (off, ("off", "b")), (2, ("order", "o", 50, "low", 1, 1, 1)))
            for day in (off, off + 1, 50):
                self.told(wanted, day, *deeds)

    def test_a_board_off_that_lay_one_night(self):
        deeds = ((2, ("stack", "s", "b")), (3, ("off", "b")), (3, ("order", "o", 8, "low", 1, 1, 1)))
        for day in (3, 5, 8):
            self.told((), day, *deeds)
        again = (*deeds, (6, ("stack", "r", "b")))
        self.told((), 5, *again)
        for day in (6, 7, 8):
            self.told((("o", "b"),), day, *again)

    def test_orders_whose_day_is_past(self):
        for last in (4, 7, 9):
            deeds = ((2, ("order", "o", last, "low", 1, 1, 1)),)
            for day in range(2, 12):
                self.told((("o", "b"),) if day <= last else (), day, *deeds, measures=FREE[:4] + (0, RULES))

    def test_given_boards_and_filled_orders(self):
        deeds = (
            (2, ("cut", "t", 1, "c")), (2, ("order", "o", 9, "low", 1, 1, 1)), (2, ("order", "p", 9, "low", 1, 1, 1)),
            (4, ("fill", "o", "b")),
        )
        dry = FREE[:4] + (0, RULES)
        self.told(2, 3, *deeds, measures=dry)
        paper = self.told((("p", "c"),), 4, *deeds, measures=dry)
        self.assertIn(paper[1], ((("p",), ()), ((), ("c",))))
        self.told((), 5, *deeds, (5, ("fill", "p", "c")), measures=dry)

    def test_boards_that_do_not_fit(self):
        dry = FREE[:4] + (0, RULES)
        for order, fits in ((("fine", 1, 6, 10), True), (("fine", 2, 6, 10), False), (("fine", 1, 7, 10), False),
                            (("fine", 1, 6, 11), False), (("low", 1, 1, 1), True)):
            self.told((("o", "b"),) if fits else (), 5, (2, ("order", "o", 9, *order)), measures=dry)

    def test_a_slow_thick_board(self):
        for thick in (1, 2, 3):
            deeds = ((3, ("cut", "t", thick, "c")), (3, ("stack", "s", "c")))
            for last in range(3, 11):
                order = (3, ("order", "o", last, "low", thick, 1, 1))
                self.told((("o", "c"),) if last - 3 >= 2 * thick else (), 3, *deeds, order)

    def test_one_board_for_two_orders_of_other_days(self):
        deeds = (
            (2, ("cut", "t", 1, "c")), (2, ("stack", "s", "b")), (4, ("stack", "s", "c")),
            (4, ("order", "o", 5, "low", 1, 1, 1)), (4, ("order", "p", 6, "low", 1, 1, 1)),
        )
        # By day 5 only b is dry, by day 6 both are: so p is given c.
        self.told((("o", "b"), ("p", "c")), 4, *deeds)
        self.told(1, 6, *deeds)
        paper = self.told((("o", "b"),), 4, *deeds[:3], deeds[3], (4, ("order", "p", 5, "low", 1, 1, 1)))
        self.assertEqual(paper[1], ((), ("b",)))

    def test_the_paper_of_dry_boards(self):
        dry = FREE[:4] + (0, RULES)
        deeds = [(2, ("cut", "t", 1, "c")), (2, ("rip", "c", 2, "d")), (2, ("cross", "b", 3, "e"))]
        for k, (grade, breadth, long) in enumerate((("low", 3, 5), ("fine", 2, 3), ("good", 2, 3), ("fine", 5, 3))):
            deeds.append((3, ("order", "opqr"[k], 9, grade, 1, breadth, long)))
        mill = mill_of(dry, *self.BEGIN, *deeds)
        orders = {name: order for name, (_, order) in mill.orders(5).items()}
        boards = {name: row[1] for name, row in mill.boards(5).items()}
        self.assertEqual(len(boards), 4)
        paper = mill.could(5)
        self.assertTrue(most_holds(orders, boards, RULES, paper))
        same(self, paper, most(orders, boards, RULES))
        self.assertEqual(len(paper[0]), 4)

    def test_thirty_orders_and_sixty_boards(self):
        entries = [(1, ("trunk", name, (((0, 5),) * 5, 9, ()))) for name in names(12, "t")]
        entries += [(2, ("cut", names(12, "t")[k // 5], 1, name)) for k, name in enumerate(names(60, "b"))]
        entries += [(3, ("order", name, 9 + k, "low", 1, 5, 9)) for k, name in enumerate(names(30, "o"))]
        entries += [(4, ("stack", names(18, "s")[k], names(60, "b")[k])) for k in range(18)]
        mill = mill_of(FREE, *entries)
        paper = hold_soon(self, mill.could, 5)
        self.assertEqual(len(paper[0]), 18)
        mill = mill_of(FREE[:4] + (0, RULES), *entries)
        self.assertEqual(len(hold_soon(self, mill.could, 5)[0]), 30)


class AskedAgain(unittest.TestCase):
    def test_told_dicts_and_lists_that_are_changed(self):
        mill = mill_of(FREE, *ENTRIES)
        for day in range(1, 13):
            kept = deepcopy(told(mill, day))
            boards, given, stacks, orders, _, _ = told(mill, day)
            for row in stacks.values():
                row.append("more")
            for answer in (boards, given, stacks, orders):
                answer["more"] = "more"
                answer.pop("b", None)
            same(self, told(mill, day), kept)
            boards.clear()
            same(self, told(mill, day), kept)

    def test_what_was_told_stays_behind_later_entries(self):
        mill = mill_of(FREE, *ENTRIES[:5])
        answers = told(mill, 8)
        kept = deepcopy(answers)
        mill.enter(8, ("off", "c"))
        mill.enter(8, ("rip", "c", 2, "d"))
        mill.out(6)
        same(self, answers, kept)

    def test_nothing_hangs_on_what_was_asked_ahead(self):
        mill = mill_of(FREE, *ENTRIES)
        days = [1, 3, 5, 7, 8, 9, 10, 12, LAST]
        first = [told(mill, day) for day in days]
        same(self, [told(mill, day) for day in reversed(days)], first[::-1])
        hold_refused(self, ("NoTrunk", "z"), mill.wood, 9, "z")
        same(self, [told(mill, day) for day in days], first)


if __name__ == "__main__":
    unittest.main()
