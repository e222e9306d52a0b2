import unittest
from copy import deepcopy
from itertools import permutations

from sawtrunk.errors import SawError
from sawtrunk.mill import Mill
from sawtrunk.shapes import round_shape

from helper import hold_refused, hold_soon, hold_unchanged, mill_of, names, odd_things, same, told, told_of

RULES = (("fine", ("rot",), 0), ("good", (), 1), ("low", (), 9))
FREE = (0, 0, 1, 1, 1, RULES)
TRUNK = (((0, 6),) * 4, 10, ())
OTHER_TRUNK = (((0, 3),) * 2, 5, ())
ENTRIES = (
    (3, ("trunk", "t", TRUNK)), (5, ("cut", "t", 1, "b")), (5, ("stack", "s", "b")), (7, ("cut", "t", 1, "c")),
    (9, ("off", "b")), (9, ("order", "o", 12, "low", 1, 4, 4)), (12, ("fill", "o", "b")),
)


class EntriesCase(unittest.TestCase):
    def refused(self, refusal, mill, day, deed):
        hold_unchanged(self, refusal, mill, mill.enter, day, deed)

    def refused_out(self, refusal, mill, number):
        hold_unchanged(self, refusal, mill, mill.out, number)

    def hold_alike(self, one, other):
        """Both tell the same of each day."""
        same(self, one.entries(), other.entries())
        last = max([day for day, _ in one.entries()], default=1)
        for day in list(range(1, last + 3)) + [10 ** 6]:
            self.assertEqual(told(one, day), told(other, day))


class Entering(EntriesCase):
    def test_told_by_days(self):
        mill = mill_of(FREE, *ENTRIES)
        same(self, mill.entries(), list(ENTRIES))
        same(self, Mill(FREE).entries(), [])

    def test_what_is_told_of_a_change(self):
        mill = Mill(FREE)
        self.assertIsNone(mill.enter(*ENTRIES[0]))
        self.assertIsNone(mill.out(0))

    def test_late_ones_ahead_of_among_and_behind_others_of_their_day(self):
        mill = mill_of(FREE, *ENTRIES)
        wanted = list(ENTRIES)
        for day, name, at in (
            (1, "u", 0), (4, "v", 2), (5, "w", 5), (5, "x", 6), (3, "y", 2), (12, "z", 12), (13, "a", 13),
        ):
            deed = ("trunk", name, OTHER_TRUNK)
            mill.enter(day, deed)
            wanted.insert(at, (day, deed))
            same(self, mill.entries(), wanted)
        self.hold_alike(mill, mill_of(FREE, *wanted))

    def test_a_deed_is_refused_by_what_is_ahead_of_it(self):
        mill = mill_of(FREE, *ENTRIES)
        # Its trunk comes on day 3, its name is taken from day 5 on, the board is there up to day 12.
        self.refused(("NoTrunk", "t"), mill, 2, ("turn", "t"))
        self.refused(("NoTrunk", "t"), mill, 2, ("cut", "t", 1, "b"))
        self.refused(("NoBoard", "b"), mill, 4, ("off", "b"))
        self.refused(("NotStacked",), mill, 10, ("off", "b"))
        self.refused(("Stacked", "s"), mill, 5, ("stack", "r", "b"))
        self.refused(("NoOrder", "o"), mill, 8, ("fill", "o", "b"))
        self.refused(("NoBoard", "b"), mill, 12, ("stack", "s", "b"))
        self.refused(("Taken", "b"), mill, 13, ("cut", "t", 1, "b"))
        self.refused(("TooThick", 2), mill, 8, ("cut", "t", 3, "d"))

    def test_hindered_with_entry_and_refusal(self):
        mill = mill_of(FREE, *ENTRIES)
        # The new one is among the entries by whose number it is told.
        self.refused(("Hindered", 2, ("Taken", "b")), mill, 4, ("cut", "t", 1, "b"))
        self.refused(("Hindered", 1, ("Taken", "t")), mill, 1, ("trunk", "t", OTHER_TRUNK))
        self.refused(("Hindered", 2, ("NoBlock",)), mill, 3, ("cut", "t", 4, "d"))
        self.refused(("Hindered", 5, ("NotStacked",)), mill, 5, ("off", "b"))
        self.refused(("Hindered", 7, ("NoOrder", "o")), mill, 10, ("fill", "o", "b"))
        self.refused(("Hindered", 7, ("Stacked", "r")), mill, 9, ("stack", "r", "b"))
        self.refused(("Hindered", 7, ("Misfit", "breadth")), mill, 9, ("rip", "b", 3, "d"))
        self.refused(("Hindered", 7, ("Misfit", "long")), mill, 10, ("cross", "b", 3, "d"))

    def test_hindered_by_others_on_a_board_and_by_a_broader_one(self):
        mill = mill_of(FREE, *ENTRIES[:5])
        self.refused(("Hindered", 5, ("Beneath", ["c"])), mill, 8, ("stack", "s", "c"))
        mill = mill_of(FREE, *ENTRIES[:4], (8, ("rip", "c", 4, "d")), (10, ("stack", "r", "c")))
        self.refused(("Hindered", 6, ("Overhang", "d")), mill, 9, ("stack", "r", "d"))

    def test_the_first_one_hindered_is_told(self):
        entries = ((1, ("trunk", "t", TRUNK)), (4, ("turn", "t")), (5, ("cut", "t", 1, "b")), (6, ("turn", "t")))
        mill = mill_of(FREE, *entries)
        self.refused(("Hindered", 2, ("NoBlock",)), mill, 3, ("cut", "t", 4, "c"))
        self.refused(("Hindered", 3, ("Taken", "b")), mill, 4, ("cut", "t", 4, "b"))
        self.refused(("Hindered", 3, ("NoBlock",)), mill, 4, ("cut", "t", 6, "c"))

    def test_the_error_that_it_met(self):
        mill = mill_of(FREE, *ENTRIES)
        for day, deed, kind in ((9, ("stack", "r", "b"), "Stacked"), (3, ("cut", "t", 4, "d"), "NoBlock")):
            try:
                mill.enter(day, deed)
            except SawError as error:
                self.assertEqual(error.__class__.__name__, "Hindered")
                self.assertEqual(error.refusal.__class__.__name__, kind)
                self.assertIsInstance(error.refusal, SawError)
                self.assertIs(error.entry.__class__, int)

    def test_a_late_one_that_helps_those_behind(self):
        mill = mill_of(FREE, (1, ("trunk", "t", TRUNK)), (3, ("cut", "t", 1, "b")), (4, ("cut", "t", 1, "c")))
        mill.enter(2, ("turn", "t"))
        # What is behind it is done anew: the boards are columns now.
        same(self, mill.boards(4)["c"], ("t", ((4, 0, 0, 1, 4, 10), "y", "fine"), 0, None))
        same(self, mill.boards(3), {"b": ("t", ((5, 0, 0, 1, 4, 10), "y", "fine"), 0, None)})
        same(self, mill.block(1, "t"), ((0, 0, 6, 4), "above"))

    def test_a_late_one_between_boards_that_were_parted_later(self):
        # By then b was still six broad, so a board of four lies on it well.
        mill = mill_of(
            FREE, (1, ("trunk", "t", TRUNK)), (2, ("cut", "t", 1, "b")), (2, ("stack", "s", "b")),
            (2, ("cut", "t", 1, "c")), (2, ("rip", "c", 4, "d")), (6, ("off", "b")), (7, ("rip", "b", 2, "e")),
            (8, ("stack", "s", "b")),
        )
        self.refused(("Overhang", "b"), mill, 8, ("stack", "s", "c"))
        self.refused(("Hindered", 6, ("Beneath", ["c"])), mill, 4, ("stack", "s", "c"))

    def test_nights_of_late_ones(self):
        mill = mill_of(FREE, (1, ("trunk", "t", TRUNK)), (2, ("cut", "t", 1, "b")), (20, ("turn", "t")))
        mill.enter(4, ("stack", "s", "b"))
        same(self, [mill.boards(day)["b"][2] for day in (3, 4, 5, 20, 30)], [0, 0, 1, 16, 26])
        mill.enter(9, ("off", "b"))
        same(self, [mill.boards(day)["b"][2] for day in (3, 4, 5, 9, 20, 30)], [0, 0, 1, 5, 5, 5])
        mill.enter(7, ("turn", "t"))
        same(self, [mill.boards(day)["b"][2] for day in (3, 4, 5, 9, 20, 30)], [0, 0, 1, 5, 5, 5])


class NoDays(EntriesCase):
    def test_what_is_no_day(self):
        mill = mill_of(FREE, *ENTRIES)
        for thing in odd_things():
            if thing.__class__ is int and 1 <= thing <= 10 ** 6:
                continue
            self.refused(("NoDay",), mill, thing, ("turn", "t"))
            hold_refused(self, ("NoDay",), mill.enter, thing, ("no", "deed"))
            hold_refused(self, ("NoDay",), mill.enter, thing, thing)
        for thing in (0, -1, 10 ** 6 + 1, True, False, None, "5", (5,), [5], 10 ** 60):
            self.refused(("NoDay",), mill, thing, ("turn", "t"))
            self.refused(("NoDay",), mill, thing, ("turn",))

    def test_the_first_and_the_last_day(self):
        mill = mill_of(FREE, *ENTRIES)
        mill.enter(10 ** 6, ("turn", "t"))
        mill.enter(1, ("trunk", "u", TRUNK))
        same(self, [day for day, _ in mill.entries()], [1, 3, 5, 5, 7, 9, 9, 12, 10 ** 6])

    def test_no_deed_ahead_of_other_refusals(self):
        mill = mill_of(FREE, *ENTRIES)
        for deed in (("turn",), ("turn", "T"), ("cut", "z", 0, "b"), ("rip", "b", 1), None):
            self.refused(("NoDeed",), mill, 5, deed)


class TakingOut(EntriesCase):
    def test_each_entry_once(self):
        for number, wanted in enumerate((
            ("Hindered", 0, ("NoTrunk", "t")), ("Hindered", 1, ("NoBoard", "b")), ("Hindered", 3, ("NotStacked",)),
            None, ("Hindered", 5, ("Stacked", "s")), ("Hindered", 5, ("NoOrder", "o")), None,
        )):
            mill = mill_of(FREE, *ENTRIES)
            if wanted is not None:
                self.refused_out(wanted, mill, number)
            else:
                self.assertIsNone(mill.out(number))
                self.hold_alike(mill, mill_of(FREE, *ENTRIES[:number], *ENTRIES[number + 1:]))

    def test_as_if_it_had_never_been(self):
        for day, deed in (
            (1, ("trunk", "u", TRUNK)), (4, ("turn", "t")), (5, ("cut", "t", 1, "d")), (12, ("turn", "t")),
            (40, ("cut", "t", 2, "e")), (9, ("order", "p", 3, "low", 1, 1, 1)),
        ):
            mill = mill_of(FREE, *ENTRIES)
            mill.enter(day, deed)
            mill.out(mill.entries().index((day, deed)))
            self.hold_alike(mill, mill_of(FREE, *ENTRIES))

    def test_all_from_the_last_on_and_entered_again(self):
        mill = mill_of(FREE, *ENTRIES)
        for number in range(len(ENTRIES) - 1, -1, -1):
            mill.out(number)
            self.hold_alike(mill, mill_of(FREE, *ENTRIES[:number]))
        same(self, mill.entries(), [])
        for entry in ENTRIES:
            mill.enter(*entry)
        self.hold_alike(mill, mill_of(FREE, *ENTRIES))

    def test_a_name_is_free_again(self):
        mill = mill_of(FREE, *ENTRIES[:2])
        self.refused(("Taken", "b"), mill, 9, ("cut", "t", 1, "b"))
        mill.out(1)
        mill.enter(9, ("cut", "t", 1, "b"))
        same(self, list(mill.boards(9)), ["b"])

    def test_numbers_that_are_none(self):
        for entries in ((), ENTRIES):
            mill = mill_of(FREE, *entries)
            for number in (len(entries), len(entries) + 1, -1, -len(entries), 10 ** 60, -(10 ** 60)):
                if number != 0 or not entries:
                    self.refused_out(("NoEntry",), mill, number)
            for thing in (True, False, None, "0", "", (0,), [0], {}, {0: 0}, (3, ("trunk", "t", TRUNK))):
                self.refused_out(("NoEntry",), mill, thing)
        mill = mill_of(FREE, *ENTRIES)
        for thing in odd_things():
            if thing.__class__ is not int or not 0 <= thing < len(ENTRIES):
                hold_refused(self, ("NoEntry",), mill.out, thing)
        same(self, mill.entries(), list(ENTRIES))


class Anew(EntriesCase):
    def test_entries_in_every_order_in_which_each_can_be_entered(self):
        entries = ENTRIES[:3] + ((7, ("cut", "t", 1, "c")), (7, ("cut", "t", 1, "d")), (8, ("turn", "t")))
        wanted = mill_of(FREE, *entries)
        held = 0
        for order in permutations(range(len(entries))):
            of_days = [[number for number in order if entries[number][0] == day] for day in (5, 7)]
            if of_days != [[1, 2], [3, 4]]:
                continue
            mill = Mill(FREE)
            try:
                for number in order:
                    mill.enter(*entries[number])
            except SawError:
                continue
            held += 1
            self.hold_alike(mill, wanted)
        self.assertGreater(held, 10)


class Great(EntriesCase):
    """Twelve trunks, sixty boards, thirty orders, a hundred and twenty entries."""

    def entries(self):
        kinds = ("rot", "knot", "bark", "knot") * 5
        flaws = tuple((kind, (k * 2, k, k * 40, 3, 3, 90)) for k, kind in enumerate(kinds))
        trunks = names(12, "t")
        entries = [(1 + k, ("trunk", name, (round_shape(40), 1000, flaws))) for k, name in enumerate(trunks)]
        entries += [(20 + k // 6, ("cut", trunks[k % 12], 2, name)) for k, name in enumerate(names(60, "b"))]
        entries += [(40 + k, ("order", name, 200 + k, "low", 2, 1 + k, 900)) for k, name in enumerate(names(30, "o"))]
        entries += [(80 + k, ("stack", names(18, "s")[k], names(60, "b")[k * 3])) for k in range(18)]
        return entries

    def test_soon(self):
        rules = (("fine", ("rot", "bark"), 3), ("good", ("rot",), 9), ("low", (), 20))
        entries = self.entries()
        self.assertEqual(len(entries), 120)
        mill = hold_soon(self, mill_of, (1, 1, 1, 1, 1, rules), *entries[:119])
        hold_soon(self, mill.enter, *entries[119])
        for number in (119, 118, 100, 71):
            hold_soon(self, mill.out, number)
            hold_soon(self, mill.enter, *entries[number])
        self.assertEqual(mill.entries(), entries)
        # Each trunk is sawn for the first time twelve entries behind it.
        hold_soon(self, hold_refused, self, ("Hindered", 11, ("NoTrunk", "taa")), mill.out, 0)
        for day in (1, 12, 30, 90, 150, 10 ** 6):
            hold_soon(self, told, mill, day)
        self.assertEqual(len(mill.boards(99)), 60)
        self.assertEqual(len(mill.orders(99)), 30)
        self.assertGreater(len(mill.could(99)[0]), 10)

    def test_backwards(self):
        rules = (("low", (), 20),)
        entries = [entry for entry in self.entries() if entry[1][0] in ("trunk", "order")]
        mill = hold_soon(self, mill_of, (1, 1, 1, 1, 1, rules), *reversed(entries))
        self.assertEqual(mill.entries(), entries)


class AskedAgain(EntriesCase):
    def test_a_told_list_that_is_changed(self):
        mill = mill_of(FREE, *ENTRIES)
        told_list = mill.entries()
        told_list.clear()
        same(self, mill.entries(), list(ENTRIES))
        kept = mill.entries()
        mill.out(6)
        same(self, kept, list(ENTRIES))

    def test_refusals_that_are_changed(self):
        mill = mill_of(FREE, *ENTRIES[:4])
        mill.enter(8, ("stack", "s", "c"))
        for _ in range(2):
            try:
                mill.enter(8, ("off", "b"))
            except SawError as error:
                same(self, told_of(error), ("Beneath", ["c"]))
                error.names.clear()
        same(self, mill.stacks(8), {"s": ["b", "c"]})

    def test_two_by_turns(self):
        one, other = Mill(FREE), Mill((1, 1, 1, 1, 1, RULES))
        for day, deed in ENTRIES[:4]:
            one.enter(day, deed)
            other.enter(day + 1, deed)
        kept = deepcopy(told(one, 9))
        other.out(3)
        other.enter(7, ("turn", "t"))
        same(self, told(one, 9), kept)
        same(self, one.entries(), list(ENTRIES[:4]))
        self.hold_alike(other, mill_of((1, 1, 1, 1, 1, RULES), *[(day + 1, deed) for day, deed in ENTRIES[:3]],
                                       (7, ("turn", "t"))))


if __name__ == "__main__":
    unittest.main()
