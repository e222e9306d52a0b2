import unittest
from itertools import product

from sawtrunk.errors import SawError
from sawtrunk.stacks import Stacks

from helper import hold_refused, same, told_of


def stacks_with(*puts):
    stacks = Stacks()
    for stack, name, breadth in puts:
        stacks.put(stack, name, breadth)
    return stacks


class StacksCase(unittest.TestCase):
    def told(self, stacks, wanted):
        same(self, stacks.piles(), wanted)
        for stack, names in wanted.items():
            for name in names:
                same(self, stacks.place(name), stack)

    def refused(self, refusal, stacks, method, *things):
        """Refused with this; all is told as ahead of it."""
        names = [name for pile in stacks.piles().values() for name in pile] + [thing for thing in things]
        kept = (stacks.piles(), [(stacks.nights(name), stacks.place(name)) for name in names])
        hold_refused(self, refusal, method, *things)
        again = (stacks.piles(), [(stacks.nights(name), stacks.place(name)) for name in names])
        same(self, again, kept)


class Putting(StacksCase):
    def test_none(self):
        self.told(Stacks(), {})

    def test_what_is_told_of_a_deed(self):
        stacks = Stacks()
        self.assertIsNone(stacks.put("s", "a", 4))
        self.assertIsNone(stacks.pass_nights(2))
        self.assertIsNone(stacks.off("a"))

    def test_one_on_another(self):
        stacks = stacks_with(("s", "a", 9), ("s", "b", 4), ("r", "c", 1), ("s", "d", 3))
        self.told(stacks, {"s": ["a", "b", "d"], "r": ["c"]})

    def test_just_as_broad_as_the_uppermost_and_one_broader(self):
        stacks = stacks_with(("s", "a", 4), ("s", "b", 4))
        self.refused(("Overhang", "b"), stacks, stacks.put, "s", "c", 5)
        self.refused(("Overhang", "b"), stacks, stacks.put, "s", "c", 10 ** 6)
        stacks.put("s", "c", 3)
        # The uppermost one counts, not a broader one beneath it.
        self.refused(("Overhang", "c"), stacks, stacks.put, "s", "d", 4)
        stacks.put("r", "d", 5)
        self.told(stacks, {"s": ["a", "b", "c"], "r": ["d"]})

    def test_a_board_that_lies_on_some_stack(self):
        stacks = stacks_with(("s", "a", 4), ("r", "b", 2))
        for stack in ("s", "r", "q"):
            self.refused(("Stacked", "s"), stacks, stacks.put, stack, "a", 1)
            self.refused(("Stacked", "r"), stacks, stacks.put, stack, "b", 1)

    def test_stacked_ahead_of_overhang(self):
        stacks = stacks_with(("s", "a", 4), ("r", "b", 2))
        for stack in ("s", "r"):
            self.refused(("Stacked", "s"), stacks, stacks.put, stack, "a", 9)

    def test_a_stack_and_a_board_of_one_name(self):
        stacks = stacks_with(("a", "a", 4), ("a", "b", 4), ("b", "c", 9))
        self.told(stacks, {"a": ["a", "b"], "b": ["c"]})
        self.refused(("Beneath", ["b"]), stacks, stacks.off, "a")


class TakingOff(StacksCase):
    def test_the_uppermost_one(self):
        stacks = stacks_with(("s", "a", 4), ("s", "b", 3))
        stacks.off("b")
        self.told(stacks, {"s": ["a"]})
        self.assertIsNone(stacks.place("b"))

    def test_a_stack_without_boards_is_none(self):
        stacks = stacks_with(("s", "a", 1), ("r", "b", 1))
        stacks.off("a")
        self.told(stacks, {"r": ["b"]})
        # So it bears a board of any breadth again.
        stacks.put("s", "c", 10 ** 6)
        self.told(stacks, {"r": ["b"], "s": ["c"]})

    def test_a_board_that_lies_on_none(self):
        stacks = stacks_with(("s", "a", 4))
        self.refused(("NotStacked",), stacks, stacks.off, "b")
        self.refused(("NotStacked",), stacks, stacks.off, "s")
        stacks.off("a")
        self.refused(("NotStacked",), stacks, stacks.off, "a")

    def test_a_board_with_others_on_it(self):
        stacks = stacks_with(("s", "a", 4), ("s", "b", 4), ("s", "c", 3), ("r", "d", 9))
        self.refused(("Beneath", ["c", "b"]), stacks, stacks.off, "a")
        self.refused(("Beneath", ["c"]), stacks, stacks.off, "b")
        stacks.off("c")
        self.refused(("Beneath", ["b"]), stacks, stacks.off, "a")

    def test_names_of_a_refusal_that_are_changed(self):
        stacks = stacks_with(("s", "a", 4), ("s", "b", 4))
        try:
            stacks.off("a")
        except SawError as error:
            error.names.append("more")
        self.refused(("Beneath", ["b"]), stacks, stacks.off, "a")
        self.told(stacks, {"s": ["a", "b"]})


class Nights(StacksCase):
    def hold_nights(self, stacks, **wanted):
        for name, nights in wanted.items():
            same(self, stacks.nights(name), nights, name)

    def test_a_name_never_put(self):
        stacks = stacks_with(("s", "a", 4))
        stacks.pass_nights(3)
        for name in ("b", "s"):
            same(self, stacks.nights(name), 0)
            same(self, stacks.place(name), None)

    def test_boards_that_lie_on_stacks(self):
        stacks = stacks_with(("s", "a", 4), ("s", "b", 4), ("r", "c", 9))
        self.hold_nights(stacks, a=0, b=0, c=0)
        stacks.pass_nights(3)
        stacks.pass_nights(0)
        stacks.put("r", "d", 1)
        stacks.pass_nights(2)
        self.hold_nights(stacks, a=5, b=5, c=5, d=2)
        stacks.pass_nights(10 ** 6)
        self.hold_nights(stacks, a=5 + 10 ** 6, d=2 + 10 ** 6)

    def test_nights_off_a_stack_and_on_another_one(self):
        stacks = stacks_with(("s", "a", 4), ("r", "b", 4))
        stacks.pass_nights(3)
        stacks.off("a")
        stacks.pass_nights(7)
        self.hold_nights(stacks, a=3, b=10)
        same(self, stacks.place("a"), None)
        stacks.put("r", "a", 2)
        self.hold_nights(stacks, a=3)
        stacks.pass_nights(1)
        self.hold_nights(stacks, a=4, b=11)

    def test_nothing_passes_without_boards(self):
        stacks = Stacks()
        stacks.pass_nights(9)
        stacks.put("s", "a", 1)
        self.hold_nights(stacks, a=0)


class Rows(StacksCase):
    """Every row of five deeds, held against piles alone."""

    DEEDS = (("put", "s", "a", 2), ("put", "s", "b", 2), ("put", "r", "b", 3), ("put", "s", "c", 3), ("off", "a"),
             ("off", "b"), ("pass_nights", 2))

    def wanted(self, piles, nights, deed):
        """None, or the refusal; else the piles and nights are changed."""
        lying = {name: stack for stack, pile in piles.items() for name, _ in pile}
        if deed[0] == "pass_nights":
            for name in lying:
                nights[name] += deed[1]
        elif deed[0] == "put":
            _, stack, name, breadth = deed
            if name in lying:
                return ("Stacked", lying[name])
            if piles[stack] and piles[stack][-1][1] < breadth:
                return ("Overhang", piles[stack][-1][0])
            piles[stack].append((name, breadth))
        else:
            if deed[1] not in lying:
                return ("NotStacked",)
            pile = piles[lying[deed[1]]]
            if pile[-1][0] != deed[1]:
                names = [name for name, _ in pile]
                return ("Beneath", names[:names.index(deed[1]):-1])
            pile.pop()
        return None

    def test_every_row(self):
        for deeds in product(self.DEEDS, repeat=5):
            stacks, piles, nights = Stacks(), {"s": [], "r": []}, {"a": 0, "b": 0, "c": 0}
            for deed in deeds:
                told = None
                try:
                    getattr(stacks, deed[0])(*deed[1:])
                except SawError as error:
                    told = told_of(error)
                self.assertEqual(told, self.wanted(piles, nights, deed))
            wanted = {stack: [name for name, _ in pile] for stack, pile in piles.items() if pile}
            self.assertEqual(stacks.piles(), wanted)
            self.assertEqual({name: stacks.nights(name) for name in nights}, nights)


class AskedAgain(StacksCase):
    def test_told_dicts_and_lists_that_are_changed(self):
        stacks = stacks_with(("s", "a", 4), ("s", "b", 3))
        told = stacks.piles()
        told["s"].append("more")
        told["r"] = []
        self.told(stacks, {"s": ["a", "b"]})
        told = stacks.piles()
        del told["s"]
        self.told(stacks, {"s": ["a", "b"]})
        stacks.put("s", "c", 1)
        self.assertEqual(told, {})

    def test_two_by_turns(self):
        one, other = Stacks(), Stacks()
        one.put("s", "a", 1)
        other.put("r", "a", 2)
        one.pass_nights(3)
        self.told(one, {"s": ["a"]})
        self.told(other, {"r": ["a"]})
        same(self, (one.nights("a"), other.nights("a")), (3, 0))


if __name__ == "__main__":
    unittest.main()
