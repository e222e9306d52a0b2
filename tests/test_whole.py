"""Mills held against slow ones: by rows of entries that a seed makes, late ones and wrong ones too."""

import unittest
from itertools import product
from random import Random

from sawtrunk.errors import SawError
from sawtrunk.fitlooks import most_holds
from sawtrunk.mill import Mill
from sawtrunk.shapes import round_shape
from sawtrunk.texts import read, written

from helper import SlowMill, cells_of, meet_by_cells, places_of, same, told_of

RULES = (("fine", ("rot",), 0), ("good", ("rot", "bark"), 2), ("low", ("rot",), 9))
MEASURES = (
    (0, 0, 1, 1, 0, RULES), (1, 1, 1, 1, 1, RULES), (1, 0, 2, 2, 2, RULES), (0, 1, 1, 3, 1, (("low", (), 3),)),
)
FLAWS = (
    (), (("knot", (1, 1, 2, 2, 1, 3)), ("rot", (3, 0, 5, 1, 2, 1)), ("bark", (0, 0, 0, 1, 9, 2))),
    (("rot", (2, 2, 4, 1, 1, 1)), ("knot", (0, 3, 0, 9, 1, 9)), ("knot", (0, 3, 0, 9, 1, 9))),
)
SHAPES = (round_shape(4), round_shape(6), ((0, 5), (0, 5), (0, 4)), ((2, 5), (1, 5), (1, 4), (0, 2)))
LAST = 14


class Maker:
    """Makes deeds, most of them such that can be done."""

    def __init__(self, seed):
        self.random = Random(seed)

    def pick(self, some, letter):
        """One of some names, now and then another one."""
        if some and self.random.random() < 0.9:
            return self.random.choice(sorted(some))
        return letter + self.random.choice("abcdefgh")

    def new(self, letter):
        return letter + self.random.choice("abcdefgh") + self.random.choice("abc")

    def deed(self, yard):
        """A deed that would do, behind what is in the yard, if all goes well."""
        words = "turn cut cut trunk order order rip cross stack stack off fill fill".split()
        # Ahead of trunks and boards little else than these can be done.
        word = self.random.choice(words[:6] if len(yard.boards) < 2 and self.random.random() < 0.8 else words)
        many = self.random.randint(1, 3)
        if word == "trunk":
            trunk = (self.random.choice(SHAPES), self.random.randint(1, 9), self.random.choice(FLAWS))
            return (word, self.pick([], "t"), trunk)
        if word == "turn":
            return (word, self.pick(yard.saws, "t"))
        if word == "cut":
            return (word, self.pick(yard.saws, "t"), many, self.new("b"))
        if word in ("rip", "cross"):
            return (word, self.pick(yard.boards, "b"), many, self.new("b"))
        if word == "stack":
            return (word, self.pick(["sa", "sb"], "s"), self.pick(yard.boards, "b"))
        if word == "off":
            lying = [name for name in yard.boards if yard.boards[name][3]]
            return (word, self.pick(lying if self.random.random() < 0.8 else yard.boards, "b"))
        if word == "order":
            grade = self.random.choice(("fine", "good", "low", "low", "other"))
            long = self.random.randint(1, 4)
            return (word, self.new("o"), self.random.randint(1, LAST), grade, many, self.random.randint(1, 3), long)
        pairs = yard.could()
        if pairs and self.random.random() < 0.8:
            return (word, *self.random.choice(sorted(pairs)))
        return (word, self.pick(yard.orders, "o"), self.pick(yard.boards, "b"))


class WholeCase(unittest.TestCase):
    def hold_day(self, mill, slow, day):
        """All that a mill tells of a day is what the slow one tells."""
        yard = slow.at(day)
        boards, given, stacks, orders, trunks = yard.told()
        self.assertEqual(mill.boards(day), boards)
        self.assertEqual(mill.given(day), given)
        self.assertEqual(mill.stacks(day), stacks)
        self.assertEqual(mill.orders(day), orders)
        for name, (block, wood) in trunks.items():
            self.assertEqual(mill.block(day, name), block)
            self.assertEqual(mill.wood(day, name), wood)
            saw = yard.saws[name]
            self.assertEqual(sum(wood), len(cells_of(saw.shape)) * saw.long)
        self.hold_paper(mill.could(day), yard)

    def hold_paper(self, paper, yard):
        """The paper is one of the most orders that can be filled."""
        pairs, cover = paper
        fitting = yard.could()
        for row in (pairs, cover[0], cover[1]):
            self.assertEqual(list(row), sorted(set(row)))
        self.assertEqual(len({order for order, _ in pairs}), len(pairs))
        self.assertEqual(len({board for _, board in pairs}), len(pairs))
        self.assertTrue(set(pairs) <= set(fitting))
        self.assertTrue(set(cover[0]) <= set(yard.orders) and set(cover[1]) <= set(yard.boards))
        self.assertTrue(all(order in cover[0] or board in cover[1] for order, board in fitting))
        self.assertEqual(len(pairs), len(cover[0]) + len(cover[1]))

    def hold_boards(self, mill, slow, day):
        """Each board lies in its trunk's wood alone, clear of what its grade bars, no cell in two of them."""
        yard = slow.at(day)
        homes = [(home, board) for home, board, _, _ in mill.boards(day).values()]
        homes += [(yard.homes[order], board) for order, (_, board) in mill.given(day).items()]
        seen = set()
        for home, (body, _, grade) in homes:
            xs, ys, zs = places_of(body)
            saw = yard.saws[home]
            cells = cells_of(saw.shape)
            self.assertTrue(all(cell in cells for cell in product(xs, ys)) and max(zs) < saw.long)
            places = {(home, *place) for place in product(xs, ys, zs)}
            self.assertFalse(places & seen)
            seen |= places
            barred, most = [rule[1:] for rule in mill_rules(slow) if rule[0] == grade][0]
            kinds = [kind for kind, where in saw.flaws if meet_by_cells(body, where)]
            self.assertFalse(set(kinds) & set(barred))
            self.assertLessEqual(len(kinds), most)

    def change(self, mill, slow, maker):
        """One entry more or one less, refused by both alike or by none; the refusal or None."""
        if slow.entries and maker.random.random() < 0.15:
            number = maker.random.randrange(len(slow.entries))
            wanted, change = slow.out(number), (mill.out, number)
        else:
            last = slow.entries[-1][0] if slow.entries else 1
            day = min(LAST, last + maker.random.randint(0, 1))
            if maker.random.random() < 0.25:
                day = maker.random.randint(1, LAST)
            deed = maker.deed(slow.at(day))
            wanted, change = slow.enter(day, deed), (mill.enter, day, deed)
        told = None
        try:
            change[0](*change[1:])
        except SawError as error:
            told = told_of(error)
        self.assertEqual(told, wanted, change[1:])
        same(self, mill.entries(), slow.entries)
        return wanted


def mill_rules(slow):
    return slow.measures[5]


class Rows(WholeCase):
    def test_rows_of_entries(self):
        refusals = {}
        for seed in range(240):
            measures = MEASURES[seed % len(MEASURES)]
            mill, slow, maker = Mill(measures), SlowMill(measures), Maker(seed)
            for step in range(70):
                refusal = self.change(mill, slow, maker)
                kind = () if refusal is None else refusal[:2] if refusal[0] == "Misfit" else refusal[:1]
                refusals[kind] = refusals.get(kind, 0) + 1
                if step % 9 == 0:
                    self.hold_day(mill, slow, maker.random.randint(1, LAST + 3))
            for day in range(1, LAST + 4):
                self.hold_day(mill, slow, day)
            self.hold_boards(mill, slow, LAST)
            self.hold_text(mill)
        # Each of these was met, so each was held against the slow mill.
        for name in ("NoBlock", "TooThick", "TooBroad", "TooLong", "Stacked", "Overhang", "NotStacked", "Beneath",
                     "Taken", "NoTrunk", "NoBoard", "NoOrder", "NoGrade", "Hindered"):
            self.assertGreater(refusals.get((name,), 0), 0, name)
        for word in ("grade", "thick", "breadth", "long", "wet", "late"):
            self.assertGreater(refusals.get(("Misfit", word), 0), 0, word)
        self.assertGreater(refusals[()], 4000)

    def test_entries_told_anew_in_another_order(self):
        entered_all = 0
        for seed in range(120):
            measures = MEASURES[seed % len(MEASURES)]
            mill, slow, maker = Mill(measures), SlowMill(measures), Maker(1000 + seed)
            for _ in range(25):
                self.change(mill, slow, maker)
            other = self.entered_anew(measures, mill.entries(), maker.random)
            if other is not None:
                entered_all += 1
                same(self, other.entries(), mill.entries())
                for day in range(1, LAST + 2):
                    self.hold_day(other, slow, day)
                    self.assertEqual(other.could(day), mill.could(day))
        self.assertGreater(entered_all, 60)

    def entered_anew(self, measures, entries, random):
        """A mill of these entries, in any order in which each can be entered; None where none is left that can."""
        mill = Mill(measures)
        queues = {}
        for day, deed in entries:
            queues.setdefault(day, []).append(deed)
        while queues:
            for day in random.sample(sorted(queues), len(queues)):
                try:
                    mill.enter(day, queues[day][0])
                except SawError:
                    continue
                queues[day].pop(0)
                break
            else:
                return None
            queues = {day: deeds for day, deeds in queues.items() if deeds}
        return mill

    def hold_text(self, mill):
        text = written(mill)
        again = read(text)
        self.assertEqual(written(again), text)
        same(self, again.entries(), mill.entries())


if __name__ == "__main__":
    unittest.main()
