import unittest
from itertools import product

from sawtrunk.best import best, weighing
from sawtrunk.shapes import round_shape, tight
from sawtrunk.weighs import weighs

from helper import (
    SlowSaw, asked, cells_in, cells_of, hold_soon, nested, odd_things, paid, small_boxes, spoilt, tight_of,
)

ANY = (("low", (), 99),)
RULES = (("fine", ("rot",), 0), ("good", ("rot",), 1), ("low", ("rot",), 2))
FREE = (0, 0, 1, 1, 0, ANY)
PRICES = (("low", 1, 2, 5), ("low", 1, 3, 9), ("low", 2, 2, 11), ("good", 1, 1, 4), ("fine", 1, 2, 8))
KNOT = ("knot", (1, 1, 1, 2, 1, 1))
ROT = ("rot", (2, 0, 0, 1, 2, 1))
SQUARE = ((0, 3),) * 3
EIGHT = ((0, 8),) * 8
SHAPE = ((1, 4), (0, 4), (0, 3))
ASKS = (
    ((SHAPE, 2, ()), FREE, PRICES, (1, 2)),
    ((SHAPE, 2, (KNOT, ROT)), (1, 1, 1, 1, 0, RULES), PRICES, (1,)),
    ((SQUARE, 2, (ROT,)), (0, 0, 2, 2, 0, RULES), PRICES, (1, 3)),
)


def weighs_slowly(ask, worth, rows):
    """Of rows (box, weight) with boxes unlike: whether they weigh, each cut sawn cell by cell."""
    trunk, measures, prices, thicks = ask
    weights = dict(rows)
    cells = cells_of(trunk[0])
    if weights.get(tight_of(cells)) != worth or any(tight_of(cells_in(trunk[0], box)) != box for box in weights):
        return False
    for (box, weight), side, thick in product(rows, range(4), thicks):
        saw = SlowSaw(trunk, measures)
        saw.left, saw.side = cells_in(trunk[0], box), side
        if saw.do(("cut", thick)) is None:
            rest = tight_of(saw.left)
            gain = sum(paid(board, prices) for board in saw.boards)
            if rest is not None and rest not in weights or gain + (0 if rest is None else weights[rest]) > weight:
                return False
    return True


class WeighsCase(unittest.TestCase):
    def told(self, wanted, ask, worth, thing):
        self.assertIs(asked(self, weighs, *ask, worth, thing), wanted, (worth, thing))

    def hold(self, ask, worth, rows):
        self.told(weighs_slowly(ask, worth, rows), ask, worth, rows)


class Weighings(WeighsCase):
    def test_the_told_one(self):
        for ask in ASKS:
            worth = best(*ask)[0]
            self.assertGreater(worth, 0)
            paper = weighing(*ask)
            self.assertTrue(weighs_slowly(ask, worth, paper))
            self.told(True, ask, worth, paper)
            self.told(True, ask, worth, paper[::-1])
            for k in range(len(paper)):
                self.told(True, ask, worth, paper[k:] + paper[:k])
            for other in (worth + 1, worth - 1, 0, 2 * worth, 10 ** 60):
                self.told(False, ask, other, paper)

    def test_a_box_missing_or_twice(self):
        for ask in ASKS:
            worth, paper = best(*ask)[0], weighing(*ask)
            for k, row in enumerate(paper):
                self.told(False, ask, worth, paper[:k] + paper[k + 1:])
                self.told(False, ask, worth, paper + (row,))
                self.told(False, ask, worth, paper + ((row[0], row[1] + 1),))
                self.told(False, ask, worth, ((row[0], 0),) + paper)

    def test_a_weight_one_less_or_one_more(self):
        seen = []
        for ask in ASKS:
            worth, paper = best(*ask)[0], weighing(*ask)
            for k, (box, weight) in enumerate(paper):
                self.told(False, ask, worth, paper[:k] + ((box, weight - 1),) + paper[k + 1:])
                rows = paper[:k] + ((box, weight + 1),) + paper[k + 1:]
                seen.append(weighs_slowly(ask, worth, rows))
                self.told(seen[-1], ask, worth, rows)
                # The whole block's weight is the worth, so it may be more where the worth is.
                self.hold(ask, worth + 1, rows)
        self.assertEqual(set(seen), {True, False})

    def test_weights_greater_than_need_be(self):
        for ask in ASKS:
            worth, paper = best(*ask)[0], weighing(*ask)
            for more in (1, 7, 10 ** 60):
                heavy = tuple((box, weight + more * (box[2] + box[3])) for box, weight in paper)
                whole = tight(ask[0][0], (0, 0, 8, 8))
                self.assertTrue(weighs_slowly(ask, dict(heavy)[whole], heavy))
                self.told(True, ask, dict(heavy)[whole], heavy)
                self.told(False, ask, worth, heavy)
                self.told(False, ask, dict(heavy)[whole] - 1, heavy)

    def test_one_box_more(self):
        for ask in ASKS[:2]:
            worth, paper = best(*ask)[0], weighing(*ask)
            among = dict(paper)
            kinds = {True: 0, False: 0}
            for box in small_boxes(4, 3):
                if box not in among:
                    # So heavy that no cut of it weighs more, but those to boxes that aren't among them.
                    rows = paper + ((box, 10 ** 6),)
                    kinds[weighs_slowly(ask, worth, rows)] += 1
                    self.hold(ask, worth, rows)
                    self.hold(ask, worth, paper + ((box, 0),))
            self.assertGreater(kinds[False], 0)

    def test_one_tight_box_more(self):
        # With a saw of one row and cuts of one, no block of two rows is ever left.
        ask = ((((0, 3),) * 3, 2, ()), (1, 0, 1, 1, 0, ANY), PRICES, (1,))
        worth, paper = best(*ask)[0], weighing(*ask)
        box = (0, 0, 2, 1)
        self.assertNotIn(box, dict(paper))
        wanted = [weighs_slowly(ask, worth, paper + ((box, weight),)) for weight in range(20)]
        self.assertEqual(set(wanted), {True, False})
        for weight in range(20):
            self.told(wanted[weight], ask, worth, paper + ((box, weight),))

    def test_a_box_that_is_no_tight_one(self):
        ask = ASKS[0]
        worth, paper = best(*ask)[0], weighing(*ask)
        for box in ((0, 0, 1, 1), (9, 9, 1, 1), (0, 0, 5, 3), (0, 0, 10 ** 60, 10 ** 60), (10 ** 60, 0, 1, 1),
                    (0, 10 ** 60, 1, 1), (1, 0, 4, 3), (0, 2, 4, 1)):
            self.told(False, ask, worth, paper + ((box, 10 ** 6),))
        for box in ((0, 0, 0, 0), (1, 0, 0, 1), (1, 0, 1, 0), (-1, 0, 2, 1), (1, -1, 1, 2), (1, 1, -1, -1)):
            self.told(False, ask, worth, paper + ((box, 10 ** 6),))
        for weight in (-1, True, False, None, "1", (1,), 10 ** 60):
            self.told(False, ask, worth, (((0, 0, 4, 3), weight),) + paper[1:])

    def test_a_whole_block_with_another_weight(self):
        same_worth = (((0, 0, 3, 3), 7),)
        ask = ((SQUARE, 2, ()), FREE, PRICES, (4,))
        for worth in (0, 7, 10 ** 60):
            self.told(True, ask, worth, (((0, 0, 3, 3), worth),))
            self.told(worth == 7, ask, worth, same_worth)
            self.told(False, ask, worth, ())
            self.told(False, ask, worth, (((0, 0, 3, 2), worth),))
            self.told(True, ask, worth, (((0, 0, 3, 3), worth), ((1, 1, 2, 2), 0)))
            # No cut tells of the other box, so its weight hangs on nothing, but it is from 0 on.
            self.told(True, ask, worth, (((0, 0, 3, 3), worth), ((1, 1, 2, 2), 10 ** 60)))
            self.told(False, ask, worth, (((0, 0, 3, 3), worth), ((1, 1, 2, 2), -1)))


class OfAnything(WeighsCase):
    def test_odd_things(self):
        things = odd_things()
        for ask in ASKS:
            for thing in things:
                self.told(False, ask, 0, thing)
        paper = weighing(*ASKS[0])
        worth = best(*ASKS[0])[0]
        for thing in things:
            self.told(False, ASKS[0], worth, paper + (thing,))
            self.told(False, ASKS[0], worth, paper + ((thing, 1),))
            self.told(False, ASKS[0], worth, paper + ((thing, thing),))

    def test_each_part_spoilt(self):
        ask = ((((0, 2),) * 2, 2, ()), FREE, PRICES, (1, 2))
        worth, paper = best(*ask)[0], weighing(*ask)
        self.told(True, ask, worth, paper)
        for thing in spoilt(paper):
            self.told(False, ask, worth, thing)

    def test_truths_for_numbers_and_lists_for_tuples(self):
        ask = ((((0, 1),), 2, ()), FREE, (("low", 1, 1, 1),), (1,))
        self.told(True, ask, 1, (((0, 0, 1, 1), 1),))
        self.told(False, ask, True, (((0, 0, 1, 1), 1),))
        for thing in (
            (((0, 0, 1, 1), True),), (((False, 0, 1, 1), 1),), (((0, 0, True, 1), 1),), (((0, 0, 1, True), 1),),
            (([0, 0, 1, 1], 1),), ([(0, 0, 1, 1), 1],), [((0, 0, 1, 1), 1)], {(0, 0, 1, 1): 1},
            {((0, 0, 1, 1), 1): 1}, (((0, 0, 1, 1), 1), None), (((0, 0, 1, 1), 1, 1),), (((0, 0, 1, 1),),),
            (((0, 0, 1), 1),), (((0, 0, 1, 1, 1), 1),), ((0, 0, 1, 1), 1), ((((0, 0, 1, 1), 1),),), "((0, 0, 1, 1), 1)",
            nested(((0, 0, 1, 1), 1), lambda x: (x,)), nested((((0, 0, 1, 1), 1),), lambda x: [x]),
        ):
            self.told(False, ask, 1, thing)


class Great(WeighsCase):
    def test_soon(self):
        prices = tuple(("low", thick, broad, thick * broad + broad) for thick in (1, 2, 3) for broad in range(1, 9))
        for shape in (EIGHT, round_shape(8)):
            ask = ((shape, 9, (KNOT, ROT)), FREE, prices, (1, 2, 3))
            worth, paper = best(*ask)[0], weighing(*ask)
            self.assertGreater(len(paper), 1000)
            self.assertIs(hold_soon(self, weighs, *ask, worth, paper), True)
            self.assertIs(hold_soon(self, weighs, *ask, worth, paper[:600] + paper[601:]), False)
            box, weight = paper[700]
            light = paper[:700] + ((box, weight - 1),) + paper[701:]
            self.assertIs(hold_soon(self, weighs, *ask, worth, light), False)


if __name__ == "__main__":
    unittest.main()
