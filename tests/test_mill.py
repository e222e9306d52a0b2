import re
import unittest

from sawtrunk.errors import NoDeed, SawError
from sawtrunk.mill import Mill
from sawtrunk.shapes import is_shape, round_shape

from helper import DAY, hold_refused, hold_unchanged, mill_of, nested, odd_things, same, spoilt

RULES = (("fine", ("rot",), 0), ("good", (), 1), ("low", (), 9))
FREE = (0, 0, 1, 1, 2, RULES)
# Four rows of six; the rot lies in the last row, near the begin, so a layer with it is good.
TRUNK = (((0, 6),) * 4, 10, (("rot", (5, 3, 0, 1, 1, 2)),))
BOARD = ((0, 0, 0, 6, 1, 10), "x", "fine")
ORDER = ("order", "o", 99, "low", 1, 1, 1)
def mill_with(*deeds, measures=FREE):
    """A mill with these deeds, all of one day."""
    return mill_of(measures, *[(DAY, deed) for deed in deeds])


class MillCase(unittest.TestCase):
    def refused(self, refusal, mill, *entry):
        """Refused with this, by its day if one is told; nothing is changed."""
        entry = entry if len(entry) == 2 else (DAY, *entry)
        hold_unchanged(self, refusal, mill, mill.enter, *entry)


CUT = (("trunk", "t", TRUNK), ("cut", "t", 1, "b"))


class Trunks(MillCase):
    def test_a_trunk_comes(self):
        mill = Mill(FREE)
        self.assertIsNone(mill.enter(DAY, ("trunk", "t", TRUNK)))
        same(self, mill.block(DAY, "t"), ((0, 0, 6, 4), "above"))
        same(self, mill.wood(DAY, "t"), (0, 0, 0, 240))
        same(self, mill.boards(DAY), {})

    def test_a_name_by_which_one_came(self):
        mill = mill_with(("trunk", "t", TRUNK), ("trunk", "u", TRUNK))
        for name in "tu":
            self.refused(("Taken", name), mill, ("trunk", name, TRUNK))
        # Sawn up or not.
        mill = mill_with(("trunk", "t", TRUNK), ("cut", "t", 4, "b"))
        self.refused(("Taken", "t"), mill, ("trunk", "t", TRUNK))
        mill.enter(DAY, ("trunk", "b", TRUNK))

    def test_turns(self):
        mill = mill_with(("trunk", "t", TRUNK))
        for up in ("right", "below", "left", "above", "right"):
            self.assertIsNone(mill.enter(DAY, ("turn", "t")))
            same(self, mill.block(DAY, "t"), ((0, 0, 6, 4), up))
        self.refused(("NoTrunk", "u"), mill, ("turn", "u"))
        self.refused(("NoTrunk", "b"), mill_with(*CUT), ("turn", "b"))
        self.refused(("NoBlock",), mill_with(("trunk", "t", TRUNK), ("cut", "t", 4, "b")), ("turn", "t"))

    def test_of_several_trunks_one_is_sawn(self):
        mill = mill_with(("trunk", "t", TRUNK), ("trunk", "u", TRUNK), ("turn", "u"), ("cut", "u", 2, "b"))
        same(self, mill.block(DAY, "t"), ((0, 0, 6, 4), "above"))
        same(self, mill.block(DAY, "u"), ((0, 0, 4, 4), "right"))
        same(self, mill.boards(DAY), {"b": ("u", ((4, 0, 0, 2, 4, 10), "y", "good"), 0, None)})


class Cuts(MillCase):
    def test_a_board_comes(self):
        mill = mill_with(*CUT)
        same(self, mill.boards(DAY), {"b": ("t", BOARD, 0, None)})
        same(self, mill.block(DAY, "t"), ((0, 1, 6, 3), "above"))
        mill.enter(DAY, ("cut", "t", 3, "c"))
        same(self, mill.boards(DAY)["c"], ("t", ((0, 1, 0, 6, 3, 10), "x", "good"), 0, None))
        same(self, mill.block(DAY, "t"), None)

    def test_saw_and_edge(self):
        trunk = (((2, 4), (0, 6), (0, 6), (1, 5)), 10, ())
        mill = mill_with(("trunk", "t", trunk), ("cut", "t", 2, "b"), measures=(1, 1, 1, 1, 0, RULES))
        same(self, mill.boards(DAY), {"b": ("t", ((2, 0, 0, 2, 2, 10), "x", "fine"), 0, None)})
        same(self, mill.wood(DAY, "t"), (40, 20, 80, 40))

    def test_refusals(self):
        mill = mill_with(*CUT)
        self.refused(("NoTrunk", "u"), mill, ("cut", "u", 1, "c"))
        self.refused(("Taken", "b"), mill, ("cut", "t", 1, "b"))
        self.refused(("TooThick", 3), mill, ("cut", "t", 4, "c"))
        self.refused(("TooThick", 3), mill, ("cut", "t", 10 ** 60, "c"))
        self.refused(("TooThick", 6), mill_with(*CUT, ("turn", "t")), ("cut", "t", 7, "c"))
        self.refused(("NoBlock",), mill_with(*CUT, ("cut", "t", 3, "c")), ("cut", "t", 1, "d"))

    def test_of_two_the_one_told_first(self):
        mill = mill_with(*CUT)
        self.refused(("NoTrunk", "u"), mill, ("cut", "u", 99, "b"))
        self.refused(("Taken", "b"), mill, ("cut", "t", 99, "b"))
        mill = mill_with(*CUT, ("cut", "t", 3, "c"))
        self.refused(("Taken", "b"), mill, ("cut", "t", 1, "b"))
        self.refused(("NoBlock",), mill, ("cut", "t", 99, "d"))

    def test_a_name_that_a_board_ever_had(self):
        mill = mill_with(*CUT, ORDER, measures=(0, 0, 1, 1, 0, RULES))
        mill.enter(DAY, ("fill", "o", "b"))
        self.refused(("Taken", "b"), mill, ("cut", "t", 1, "b"))
        # A board that became slab, too.
        mill = mill_with(*CUT, ("rip", "b", 2, "c"), measures=(0, 1, 4, 1, 0, RULES))
        same(self, mill.boards(DAY), {})
        self.refused(("Taken", "b"), mill, ("cut", "t", 1, "b"))
        mill.enter(DAY, ("cut", "t", 1, "c"))

    def test_a_name_of_a_board_that_did_not_come(self):
        rules = (("fine", ("rot",), 0),)
        trunk = (((0, 6),) * 4, 10, (("rot", (0, 0, 0, 1, 1, 1)),))
        mill = mill_with(("trunk", "t", trunk), ("cut", "t", 1, "b"), measures=(0, 0, 1, 1, 0, rules))
        same(self, mill.boards(DAY), {})
        same(self, mill.wood(DAY, "t"), (0, 60, 0, 180))
        self.refused(("NoBoard", "b"), mill, ("off", "b"))
        mill.enter(DAY, ("cut", "t", 1, "b"))
        same(self, list(mill.boards(DAY)), ["b"])

    def test_names_of_a_trunk_a_board_an_order_and_a_stack_alike(self):
        mill = mill_with(("trunk", "a", TRUNK), ("cut", "a", 1, "a"), ("order", "a", 50, "low", 1, 1, 1),
                         ("stack", "a", "a"), ("off", "a"), measures=(0, 0, 1, 1, 0, RULES))
        mill.enter(DAY, ("fill", "a", "a"))
        same(self, mill.given(DAY), {"a": ("a", BOARD)})


class Parting(MillCase):
    def test_a_board_ripped_and_crossed(self):
        mill = mill_with(*CUT, measures=(0, 1, 1, 1, 0, RULES))
        self.assertIsNone(mill.enter(DAY, ("rip", "b", 2, "c")))
        same(self, mill.boards(DAY), {
            "b": ("t", ((0, 0, 0, 2, 1, 10), "x", "fine"), 0, None),
            "c": ("t", ((3, 0, 0, 3, 1, 10), "x", "fine"), 0, None),
        })
        self.assertIsNone(mill.enter(DAY, ("cross", "c", 4, "d")))
        same(self, mill.boards(DAY)["c"], ("t", ((3, 0, 0, 3, 1, 4), "x", "fine"), 0, None))
        same(self, mill.boards(DAY)["d"], ("t", ((3, 0, 5, 3, 1, 5), "x", "fine"), 0, None))
        same(self, mill.wood(DAY, "t"), (20 + 12 + 15, 0, 10 + 3, 180))

    def test_grades_anew_by_the_trunks_flaws(self):
        mill = mill_with(("trunk", "u", (((0, 6),) * 4, 10, ())), ("trunk", "t", TRUNK), ("cut", "t", 4, "b"))
        same(self, mill.boards(DAY)["b"][1][2], "good")
        mill.enter(DAY, ("cross", "b", 2, "c"))
        same(self, [mill.boards(DAY)[name][1][2] for name in "bc"], ["good", "fine"])
        mill.enter(DAY, ("rip", "b", 5, "d"))
        same(self, [mill.boards(DAY)[name][1][2] for name in "bd"], ["fine", "good"])

    def test_parts_that_are_no_boards(self):
        measures = (0, 1, 3, 1, 0, RULES)
        mill = mill_with(*CUT, ("rip", "b", 2, "c"), measures=measures)
        # Two and three broad, and one between them dust: the first is too narrow.
        same(self, mill.boards(DAY), {"c": ("t", ((3, 0, 0, 3, 1, 10), "x", "fine"), 0, None)})
        same(self, mill.wood(DAY, "t"), (30, 20, 10, 180))
        self.refused(("NoBoard", "b"), mill, ("rip", "b", 1, "d"))
        mill = mill_with(*CUT, ("rip", "b", 3, "c"), measures=measures)
        same(self, mill.boards(DAY), {"b": ("t", ((0, 0, 0, 3, 1, 10), "x", "fine"), 0, None)})
        self.refused(("NoBoard", "c"), mill, ("rip", "c", 1, "d"))
        # The name was used by nothing, so it is free.
        mill.enter(DAY, ("cut", "t", 1, "c"))
        mill = mill_with(*CUT, ("rip", "b", 5, "c"), measures=measures)
        same(self, list(mill.boards(DAY)), ["b"])
        same(self, mill.wood(DAY, "t"), (50, 0, 10, 180))

    def test_refusals(self):
        mill = mill_with(*CUT, ("cut", "t", 1, "d"), ("stack", "s", "d"))
        for word, name, field in (("rip", "TooBroad", 6), ("cross", "TooLong", 10)):
            self.refused(("NoBoard", "c"), mill, (word, "c", 1, "e"))
            self.refused(("NoBoard", "t"), mill, (word, "t", 1, "e"))
            self.refused(("Taken", "d"), mill, (word, "b", 1, "d"))
            self.refused(("Taken", "b"), mill, (word, "b", 1, "b"))
            self.refused(("Stacked", "s"), mill, (word, "d", 1, "e"))
            for many in (field, field + 1, 10 ** 60):
                self.refused((name, field), mill, (word, "b", many, "e"))

    def test_of_two_the_one_told_first(self):
        mill = mill_with(*CUT, ("cut", "t", 1, "d"), ("stack", "s", "d"))
        for word in ("rip", "cross"):
            self.refused(("NoBoard", "c"), mill, (word, "c", 99, "d"))
            self.refused(("Taken", "b"), mill, (word, "d", 99, "b"))
            self.refused(("Taken", "d"), mill, (word, "b", 99, "d"))
            self.refused(("Stacked", "s"), mill, (word, "d", 99, "e"))

    def test_nights_of_both_parts(self):
        mill = mill_with(*CUT, ("stack", "s", "b"))
        mill.enter(DAY + 3, ("off", "b"))
        mill.enter(DAY + 5, ("rip", "b", 2, "c"))
        mill.enter(DAY + 6, ("cross", "c", 2, "d"))
        mill.enter(DAY + 6, ("stack", "s", "d"))
        for day, wanted in ((DAY + 5, {"b": 3, "c": 3}), (DAY + 7, {"b": 3, "c": 3, "d": 4})):
            same(self, {name: row[2] for name, row in mill.boards(day).items()}, wanted)

    def test_nights_where_the_first_part_is_no_board(self):
        mill = mill_with(*CUT, ("stack", "s", "b"), measures=(0, 0, 3, 1, 2, RULES))
        mill.enter(DAY + 4, ("off", "b"))
        mill.enter(DAY + 4, ("rip", "b", 1, "c"))
        same(self, {name: row[2] for name, row in mill.boards(DAY + 9).items()}, {"c": 4})


class Stacking(MillCase):
    def test_on_stacks_and_off(self):
        mill = mill_with(*CUT, ("cut", "t", 1, "c"), ("rip", "c", 4, "d"))
        for deed in (("stack", "s", "b"), ("stack", "s", "c"), ("stack", "r", "d")):
            self.assertIsNone(mill.enter(DAY, deed))
        same(self, mill.stacks(DAY), {"s": ["b", "c"], "r": ["d"]})
        same(self, {name: row[3] for name, row in mill.boards(DAY).items()}, {"b": "s", "c": "s", "d": "r"})
        self.assertIsNone(mill.enter(DAY, ("off", "d")))
        same(self, mill.stacks(DAY), {"s": ["b", "c"]})
        same(self, mill.boards(DAY)["d"][3], None)

    def test_refusals(self):
        mill = mill_with(*CUT, ("cut", "t", 1, "c"), ("rip", "c", 5, "d"), ("stack", "s", "c"))
        self.refused(("NoBoard", "e"), mill, ("stack", "s", "e"))
        self.refused(("Stacked", "s"), mill, ("stack", "r", "c"))
        self.refused(("Stacked", "s"), mill, ("stack", "s", "c"))
        self.refused(("Overhang", "c"), mill, ("stack", "s", "b"))
        mill.enter(DAY, ("stack", "s", "d"))
        self.refused(("Overhang", "d"), mill, ("stack", "s", "b"))
        self.refused(("NoBoard", "e"), mill, ("off", "e"))
        self.refused(("NoBoard", "s"), mill, ("off", "s"))
        self.refused(("NotStacked",), mill, ("off", "b"))
        self.refused(("Beneath", ["d"]), mill, ("off", "c"))

    def test_breadths_by_the_way(self):
        # Cut from the side: six columns of four, so each board is four broad, and two wide.
        mill = mill_with(("trunk", "t", TRUNK), ("turn", "t"), ("cut", "t", 2, "b"), ("cut", "t", 1, "c"),
                         ("rip", "c", 3, "d"), ("stack", "s", "c"))
        self.refused(("Overhang", "c"), mill, ("stack", "s", "b"))
        mill = mill_with(("trunk", "t", TRUNK), ("turn", "t"), ("cut", "t", 2, "b"), ("cut", "t", 3, "c"),
                         ("stack", "s", "b"), ("stack", "s", "c"))
        same(self, mill.stacks(DAY), {"s": ["b", "c"]})

    def test_a_board_given_out_or_slab(self):
        mill = mill_with(*CUT, ORDER, ("fill", "o", "b"), measures=(0, 0, 1, 1, 0, RULES))
        for deed in (("stack", "s", "b"), ("off", "b"), ("rip", "b", 1, "c"), ("cross", "b", 1, "c")):
            self.refused(("NoBoard", "b"), mill, deed)
        mill = mill_with(*CUT, ("rip", "b", 2, "c"), measures=(0, 1, 4, 1, 0, RULES))
        for name in "bc":
            for deed in (("stack", "s", name), ("off", name), ("rip", name, 1, "d")):
                self.refused(("NoBoard", name), mill, deed)


class Orders(MillCase):
    def test_an_order_comes(self):
        mill = Mill(FREE)
        self.assertIsNone(mill.enter(DAY, ("order", "o", 3, "good", 1, 2, 10 ** 6)))
        same(self, mill.orders(DAY), {"o": (3, ("good", 1, 2, 10 ** 6))})
        mill.enter(DAY, ("order", "p", 10 ** 60, "fine", 4, 5, 6))
        same(self, mill.orders(DAY), {"o": (3, ("good", 1, 2, 10 ** 6)), "p": (10 ** 60, ("fine", 4, 5, 6))})

    def test_refusals(self):
        mill = mill_with(*CUT, ORDER, ("order", "p", 1, "good", 1, 1, 1), measures=(0, 0, 1, 1, 0, RULES))
        self.refused(("Taken", "o"), mill, ("order", "o", 5, "fine", 1, 1, 1))
        self.refused(("Taken", "o"), mill, ("order", "o", 5, "other", 1, 1, 1))
        for grade in ("other", "rot", "fin", "fines"):
            self.refused(("NoGrade",), mill, ("order", "q", 5, grade, 1, 1, 1))
        # The grade was in no rule, so the name was used by nothing.
        mill.enter(DAY, ("fill", "o", "b"))
        self.refused(("Taken", "o"), mill, ORDER)
        mill.enter(DAY, ("order", "q", 5, "fine", 1, 1, 1))

    def test_a_board_given_out(self):
        mill = mill_with(*CUT, ORDER, measures=(0, 0, 1, 1, 0, RULES))
        self.assertIsNone(mill.enter(DAY, ("fill", "o", "b")))
        same(self, mill.given(DAY), {"o": ("b", BOARD)})
        same(self, mill.boards(DAY), {})
        same(self, mill.orders(DAY), {})
        same(self, mill.wood(DAY, "t"), (60, 0, 0, 180))
        self.refused(("NoOrder", "o"), mill, ("fill", "o", "b"))
        mill.enter(DAY, ("order", "p", 99, "low", 1, 1, 1))
        self.refused(("NoBoard", "b"), mill, ("fill", "p", "b"))

    def test_refusals_of_filling(self):
        mill = mill_with(*CUT, ORDER, ("cut", "t", 1, "c"), ("stack", "s", "c"), ("order", "p", 99, "fine", 3, 9, 99),
                         measures=(0, 0, 1, 1, 0, RULES))
        self.refused(("NoOrder", "q"), mill, ("fill", "q", "b"))
        self.refused(("NoOrder", "q"), mill, ("fill", "q", "z"))
        self.refused(("NoOrder", "b"), mill, ("fill", "b", "o"))
        self.refused(("NoBoard", "z"), mill, ("fill", "o", "z"))
        self.refused(("Stacked", "s"), mill, ("fill", "o", "c"))
        self.refused(("Stacked", "s"), mill, ("fill", "p", "c"))
        self.refused(("Misfit", "thick"), mill, ("fill", "p", "b"))

    def test_misfit_by_each_word_in_their_order(self):
        mill = mill_with(("trunk", "t", TRUNK), ("cut", "t", 2, "c"), ("cut", "t", 2, "b"))
        same(self, mill.boards(DAY)["b"][1], ((0, 2, 0, 6, 2, 10), "x", "good"))
        names = iter("efghijklmnopq")
        for order, word in (
            (("fine", 1, 7, 11), "grade"), (("fine", 2, 6, 10), "grade"), (("good", 1, 7, 11), "thick"),
            (("low", 3, 6, 10), "thick"), (("good", 2, 7, 11), "breadth"), (("good", 2, 7, 10), "breadth"),
            (("good", 2, 6, 11), "long"), (("low", 2, 1, 11), "long"), (("good", 2, 6, 10), "wet"),
            (("low", 2, 1, 1), "wet"),
        ):
            name = next(names)
            # Its day is past: that it is late is told last.
            mill.enter(DAY, ("order", name, DAY - 1, *order))
            self.refused(("Misfit", word), mill, ("fill", name, "b"))

    def test_just_dry_and_one_night_less(self):
        for many in range(1, 4):
            mill = mill_with(("trunk", "t", TRUNK), ("cut", "t", many, "b"), ("stack", "s", "b"),
                             ("order", "o", 99, "good", many, 1, 1))
            mill.enter(DAY + 2 * many - 1, ("off", "b"))
            self.refused(("Misfit", "wet"), mill, DAY + 2 * many - 1, ("fill", "o", "b"))
            # Off the stack it dries no more.
            self.refused(("Misfit", "wet"), mill, DAY + 50, ("fill", "o", "b"))
            mill.enter(DAY + 50, ("stack", "s", "b"))
            mill.enter(DAY + 51, ("off", "b"))
            mill.enter(DAY + 51, ("fill", "o", "b"))
            same(self, mill.given(DAY + 51)["o"][0], "b")

    def test_late_just_in_time_and_one_day_behind(self):
        for day, refusal in ((DAY, None), (DAY + 1, None), (DAY + 2, ("Misfit", "late"))):
            mill = mill_with(*CUT, ("order", "o", DAY + 1, "low", 1, 1, 1), measures=(0, 0, 1, 1, 0, RULES))
            if refusal is None:
                mill.enter(day, ("fill", "o", "b"))
            else:
                self.refused(refusal, mill, day, ("fill", "o", "b"))

    def test_slow_of_nothing(self):
        mill = mill_with(*CUT, ORDER, measures=(0, 0, 1, 1, 0, RULES))
        mill.enter(DAY, ("fill", "o", "b"))
        same(self, mill.given(DAY), {"o": ("b", BOARD)})


def is_name(thing):
    return isinstance(thing, str) and re.fullmatch("[a-z]{1,8}", thing, re.ASCII) is not None


def are_numbers(things, least):
    return all(thing.__class__ is int and thing >= least for thing in things)


def is_flaw(thing):
    return (
        isinstance(thing, tuple) and len(thing) == 2 and is_name(thing[0]) and isinstance(thing[1], tuple)
        and len(thing[1]) == 6 and are_numbers(thing[1][:3], 0) and are_numbers(thing[1][3:], 1)
    )


def is_trunk(thing):
    return (
        isinstance(thing, tuple) and len(thing) == 3 and is_shape(thing[0]) and are_numbers(thing[1:2], 1)
        and isinstance(thing[2], tuple) and all(is_flaw(flaw) for flaw in thing[2])
    )


def is_deed(thing):
    """Of anything: whether it is a deed, by its signs: N a name, 1 a number from 1 on, T a trunk."""
    forms = {"trunk": "NT", "turn": "N", "cut": "N1N", "rip": "N1N", "cross": "N1N", "stack": "NN", "off": "N",
             "order": "N1N111", "fill": "NN"}
    if not isinstance(thing, tuple) or not thing or not isinstance(thing[0], str):
        return False
    form = forms.get(thing[0])
    return form is not None and len(form) == len(thing) - 1 and all(
        is_name(part) if sign == "N" else are_numbers((part,), 1) if sign == "1" else is_trunk(part)
        for sign, part in zip(form, thing[1:])
    )


DEEDS = (
    ("trunk", "u", (((0, 2), (1, 3)), 4, (("knot", (0, 0, 0, 1, 1, 1)),))), ("turn", "t"), ("cut", "t", 1, "c"),
    ("rip", "b", 2, "c"), ("cross", "b", 2, "c"), ("stack", "s", "b"), ("off", "d"),
    ("order", "p", 5, "good", 1, 2, 3), ("fill", "o", "e"),
)


class NoDeeds(MillCase):
    def entered(self, deed):
        """Enter a deed in a mill in which each of the deeds can be done; whether it is a deed."""
        mill = self.mill()
        try:
            mill.enter(DAY, deed)
        except NoDeed:
            self.assertEqual(len(mill.entries()), 9)
            return False
        except SawError:
            pass
        return True

    def mill(self):
        return mill_with(*CUT, ("cut", "t", 1, "d"), ("stack", "r", "d"), ("cut", "t", 1, "e"), ORDER,
                         ("stack", "r", "e"), ("off", "e"), ("turn", "t"), measures=(0, 0, 1, 1, 0, RULES))

    def test_each_can_be_done(self):
        for deed in DEEDS:
            mill = self.mill()
            mill.enter(DAY, deed)
            same(self, mill.entries()[-1], (DAY, deed))

    def test_each_part_spoilt(self):
        for deed in DEEDS:
            for thing in spoilt(deed):
                self.assertIs(self.entered(thing), is_deed(thing), thing)

    def test_odd_things(self):
        mill = self.mill()
        things = odd_things()
        for thing in things:
            self.refused(("NoDeed",), mill, thing)
        for deed in DEEDS:
            for k in range(len(deed)):
                for thing in things:
                    wrong = deed[:k] + (thing,) + deed[k + 1:]
                    if not is_deed(wrong):
                        hold_refused(self, ("NoDeed",), mill.enter, DAY, wrong)
                    else:
                        self.assertTrue(self.entered(wrong))

    def test_names(self):
        mill = self.mill()
        for name in (
            "", "abcdefghi", "A", "aB", "a1", "a ", " a", "a-b", "a_b", "\u00e4", "\u00df", "\u0430", "a\n", "a|",
        ):
            for deed in DEEDS:
                hold_refused(self, ("NoDeed",), mill.enter, DAY, (deed[0], name) + deed[2:])
            flaw = (name, (0, 0, 0, 1, 1, 1))
            hold_refused(self, ("NoDeed",), mill.enter, DAY, ("trunk", "u", (((0, 2),), 1, (flaw,))))
        for name in ("a", "abcdefgh", "zzzzzzzz", "trunk", "mill"):
            mill.enter(DAY, ("trunk", name, (((0, 2),), 1, ())))

    def test_numbers_from_one_on(self):
        mill = self.mill()
        for number in (0, -1, True, False, None, "1", (1,), [1], -(10 ** 60)):
            for word in ("cut", "rip", "cross"):
                hold_refused(self, ("NoDeed",), mill.enter, DAY, (word, "b", number, "c"))
            for k in (2, 4, 5, 6):
                deed = ("order", "p", 5, "good", 1, 2, 3)
                hold_refused(self, ("NoDeed",), mill.enter, DAY, deed[:k] + (number,) + deed[k + 1:])

    def test_lists_for_tuples_and_deeds_within_deeds(self):
        mill = self.mill()
        trunk = (((0, 2), (1, 3)), 4, (("knot", (0, 0, 0, 1, 1, 1)),))
        for thing in (
            [["turn", "t"]], ["turn", "t"], {"turn": "t"}, "turn t", "turn", ("turn",), ("turn", "t", "t"),
            ("turn", ("t",)), (("turn", "t"),), ("Turn", "t"), ("turns", "t"), ("", "t"), (None, "t"), (0, "t"),
            (("turn",), "t"), nested(("turn", "t"), lambda x: (x,)), ("trunk", "u", list(trunk)),
            ("trunk", "u", trunk + (1,)), ("trunk", "u", trunk[:2]), ("trunk", "u", (list(trunk[0]),) + trunk[1:]),
            ("trunk", "u", trunk[:2] + ([],)), ("trunk", "u", trunk[:2] + (list(trunk[2]),)),
            ("trunk", "u", trunk[:2] + (trunk[2][0],)), ("trunk", "u", ((), 4, ())),
            ("trunk", "u", (((0, 1), (1, 2)), 4, ())), ("trunk", "u", (((0, 2),), 0, ())),
            ("trunk", "u", (((0, 2),), True, ())), ("trunk", "u", (((2, 2),), 4, ())),
        ):
            self.refused(("NoDeed",), mill, thing)

    def test_bodies_of_flaws(self):
        mill = self.mill()
        body = (0, 0, 0, 1, 1, 1)
        for k in range(6):
            for number in (-1, 0, True, None, "1", 1.5) if k > 2 else (-1, False, None, "0", 0.5):
                wrong = body[:k] + (number,) + body[k + 1:]
                hold_refused(self, ("NoDeed",), mill.enter, DAY, ("trunk", "u", (((0, 2),), 1, (("knot", wrong),))))
        for wrong in (body[:5], body + (1,), list(body), (), None):
            hold_refused(self, ("NoDeed",), mill.enter, DAY, ("trunk", "u", (((0, 2),), 1, (("knot", wrong),))))
        mill.enter(DAY, ("trunk", "u", (((0, 2),), 1, (("knot", body), ("knot", body)))))

    def test_bounds_are_not_asked(self):
        great = 10 ** 60
        body = (great,) * 6
        for number, trunk in enumerate((
            (((0, great), (1, great)), great, ()), (((0, 1),) * 100, 2000, (("knot", body),) * 50),
            (round_shape(40), 1, (("knot", body),) * 21), (((great, great + 2),), 1, ()),
        )):
            mill = self.mill()
            mill.enter(DAY, ("trunk", "u", trunk))
            self.assertEqual(mill.entries()[-1][1][2], trunk, number)
        mill = mill_with(("trunk", "u", (((0, great), (1, great)), great, ())), ("cut", "u", 1, "c"))
        same(self, mill.wood(DAY, "u"), (great * great, 0, 0, (great - 1) * great))
        mill.enter(DAY, ("order", "p", great, "good", great, great, great))


if __name__ == "__main__":
    unittest.main()
