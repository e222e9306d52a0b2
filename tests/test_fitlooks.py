import unittest
from itertools import chain, combinations, product

from sawtrunk.fitlooks import most_holds
from sawtrunk.fitting import fits, most

from helper import asked, board, names, nested, odd_things, spoilt

RULES = (("fine", (), 0), ("good", ("rot",), 3), ("low", (), 9))
ORDERS = {"a": ("good", 2, 3, 1), "b": ("good", 2, 2, 2), "c": ("fine", 2, 1, 1)}
BOARDS = {"a": board("good", 2, 3, 3), "d": board("good", 2, 2, 2), "e": board("low", 2, 9, 9)}
# Which of these fit: a and a, b and a, b and d.
PAPER = ((("a", "a"), ("b", "d")), (("a", "b"), ()))


def subsets(things):
    things = sorted(things)
    return chain.from_iterable(combinations(things, many) for many in range(len(things) + 1))


def holds_slowly(orders, boards, rules, pairs, cover):
    """Of rising pairs and names that are there: whether it is a paper of the most orders."""
    fitting = [(one, other) for one, other in product(orders, boards) if fits(boards[other], orders[one], rules)]
    used = [("o", one) for one, _ in pairs] + [("b", other) for _, other in pairs]
    return (
        all(pair in fitting for pair in pairs) and len(set(used)) == len(used)
        and all(one in cover[0] or other in cover[1] for one, other in fitting)
        and len(pairs) == len(cover[0]) + len(cover[1])
    )


class LooksCase(unittest.TestCase):
    def told(self, wanted, thing, orders=ORDERS, boards=BOARDS):
        self.assertIs(asked(self, most_holds, orders, boards, RULES, thing), wanted, thing)


class Papers(LooksCase):
    def test_all_small_papers(self):
        orders = {name: ORDERS[name] for name in "ab"}
        seen = []
        for boards in ({}, {"a": BOARDS["a"]}, {"a": BOARDS["a"], "d": BOARDS["d"]}, BOARDS):
            for pairs in subsets(product(orders, boards)):
                for cover in product(subsets(orders), subsets(boards)):
                    wanted = holds_slowly(orders, boards, RULES, pairs, cover)
                    seen.append(wanted)
                    self.told(wanted, (pairs, cover), orders, boards)
        self.assertGreater(seen.count(True), 4)

    def test_the_told_one(self):
        self.told(True, most(ORDERS, BOARDS, RULES))
        self.told(True, PAPER)
        self.told(True, (PAPER[0], ((), ("a", "d"))))
        self.told(True, (PAPER[0], (("b",), ("a",))))

    def test_pairs_out_twice_or_exchanged(self):
        pairs, cover = PAPER
        for others in (
            pairs[:1], pairs[1:], (), pairs + pairs, pairs[:1] * 2, pairs[1:] * 2, pairs[::-1], pairs + (("c", "e"),),
            (("a", "d"), ("b", "a")), (("a", "a"), ("b", "a")), (("b", "a"), ("b", "d")), (("d", "b"), ("a", "a")),
            (("a", "a"), ("d", "b")), (("a", "a"), ("b", "e")), (("a", "d"), ("b", "d")),
        ):
            self.told(False, (others, cover))

    def test_pairs_as_many_as_the_cover_but_no_paper(self):
        # Just the count holds: one pair less with a cover that is one less, one more with one more.
        pairs, (orders, boards) = PAPER
        self.told(False, (pairs[:1], (orders[:1], boards)))
        self.told(False, (pairs[1:], (orders[1:], boards)))
        self.told(False, ((), ((), ())))
        self.told(False, (pairs + (("c", "e"),), (("a", "b", "c"), boards)))
        self.told(False, ((("a", "a"), ("b", "a")), (orders, boards)))
        self.told(False, ((("b", "a"), ("b", "d")), (orders, boards)))

    def test_names_that_are_not_there(self):
        pairs, cover = PAPER
        for name in ("z", "", "A", "aa", "a ", "1"):
            self.told(False, (pairs[:1] + (("b", name),), cover))
            self.told(False, (pairs[:1] + ((name, "d"),), cover))
            self.told(False, (pairs, (("a", name), ())))
            self.told(False, (pairs, (("a", "b", name), ())))
            self.told(False, (pairs, (("b",), (name,))))
        # A board's name for an order, an order's for a board.
        self.told(False, (pairs, (("a", "d"), ())))
        self.told(False, (pairs, ((), ("a", "b"))))

    def test_covers_with_a_name_out_more_or_twice(self):
        pairs = PAPER[0]
        for cover in (
            (("a",), ()), (("b",), ()), ((), ("a",)), ((), ("d",)), ((), ()), (("a", "b", "c"), ()),
            (("a", "b"), ("e",)), (("a", "b"), ("a",)), (("a", "a", "b"), ()), (("a", "b", "b"), ()), (("a", "a"), ()),
            (("b", "a"), ()), ((), ("d", "a")), ((), ("a", "a")), (("a",), ("a",)), (("a",), ("d", "d")),
            (("c",), ("a",)),
        ):
            self.told(False, (pairs, cover))
        self.told(False, (pairs, (("a",), ("d",))))

    def test_none_there(self):
        for orders, boards in (({}, {}), (ORDERS, {}), ({}, BOARDS)):
            self.told(True, ((), ((), ())), orders, boards)
            for name in "acd":
                self.told(False, ((), ((name,), ())), orders, boards)
                self.told(False, ((), ((), (name,))), orders, boards)
                self.told(False, (((name, name),), ((), (name,))), orders, boards)

    def test_great(self):
        orders = {name: ("good", 2, k + 1, 9) for k, name in enumerate(names(30, "o"))}
        boards = {name: board("good", 2, k // 2 + 1, 9) for k, name in enumerate(names(60, "b"))}
        paper = most(orders, boards, RULES)
        self.told(True, paper, orders, boards)
        pairs, cover = paper
        self.assertEqual(len(pairs), 30)
        for k in range(30):
            self.told(False, (pairs[:k] + pairs[k + 1:], cover), orders, boards)


class OfAnything(LooksCase):
    def test_odd_things(self):
        pairs, cover = PAPER
        for thing in odd_things():
            if thing in cover:
                continue
            self.told(False, thing)
            self.told(False, (thing, cover))
            self.told(False, (pairs, thing))
            self.told(False, (pairs, (thing, ())))
            self.told(False, (pairs, (cover[0], thing)))
            self.told(False, (pairs + (thing,), cover))
            self.told(False, (pairs[:1] + (("b", thing),), cover))
            self.told(False, (pairs[:1] + ((thing, "d"),), cover))
            self.told(False, (pairs, (cover[0], (thing,))))
            self.told(False, (thing, (thing, thing)))

    def test_each_part_spoilt(self):
        self.told(True, PAPER)
        for paper in (PAPER, (PAPER[0], (("b",), ("a",)))):
            for thing in spoilt(paper):
                if thing != paper:
                    self.told(False, thing)

    def test_lists_for_tuples(self):
        pairs, cover = PAPER
        for thing in (
            [pairs, cover], (list(pairs), cover), (pairs, list(cover)), (pairs, (["a", "b"], ())),
            (pairs, (("a", "b"), [])), ((["a", "a"], ("b", "d")), cover), (pairs, ("ab", "")), (("aa", "bd"), cover),
            (dict(pairs), cover), (pairs, ({"a": 1, "b": 2}, ())), {pairs: cover}, (pairs, cover, ()), (pairs,),
            PAPER + PAPER, nested(PAPER, lambda x: (x,)), nested(PAPER, lambda x: [x]), (pairs, (("a", "b"), (), ())),
            (pairs, (("a", "b"),)),
        ):
            self.told(False, thing)


if __name__ == "__main__":
    unittest.main()
