"""What the tests share: asking twice, refusals, and slow answers that go through every cell."""

from copy import deepcopy
from itertools import product
from time import perf_counter

from sawtrunk.errors import SawError
from sawtrunk.mill import Mill


def asked(case, function, *things):
    """The answer of a function; it must be the same twice, and leave what is handed in as it was."""
    kept = deepcopy(things)
    first = function(*things)
    again = function(*things)
    # repr tells True from 1 and a list from a tuple.
    case.assertEqual(repr(first), repr(again))
    case.assertEqual(repr(things), repr(kept))
    return first


def same(case, told, wanted, *why):
    """The two are equal and of the same kinds throughout."""
    case.assertEqual(repr(told), repr(wanted), why)


def cells_of(shape):
    return {(x, y) for y, (lo, hi) in enumerate(shape) for x in range(lo, hi)}


def cells_in(shape, box):
    left, top, wide, high = box
    return {(x, y) for x, y in cells_of(shape) if left <= x < left + wide and top <= y < top + high}


def tight_of(cells):
    """The least box around cells; None without any."""
    if not cells:
        return None
    xs = [x for x, _ in cells]
    ys = [y for _, y in cells]
    return (min(xs), min(ys), max(xs) - min(xs) + 1, max(ys) - min(ys) + 1)


def is_shape_by_cells(rows):
    """Of rows (lo, hi) with 0 <= lo < hi: the two rules of a shape, cell by cell."""
    for one, other in zip(rows, rows[1:]):
        if not set(range(*one)) & set(range(*other)):
            return False
    cells = cells_of(rows)
    for x, y in cells:
        for below in range(y + 1, len(rows)):
            if (x, below) in cells and any((x, k) not in cells for k in range(y, below)):
                return False
    return True


def rows_within(wide):
    return [(lo, hi) for lo in range(wide) for hi in range(lo + 1, wide + 1)]


def small_shapes(wide, high):
    """Every shape of at most so many columns and rows."""
    for many in range(1, high + 1):
        for rows in product(rows_within(wide), repeat=many):
            if is_shape_by_cells(rows):
                yield rows


def small_boxes(wide, high):
    return list(product(range(wide + 1), range(high + 1), range(1, wide + 2), range(1, high + 2)))


SIDES = ("above", "right", "below", "left")


class SlowSaw:
    """A trunk sawn cell by cell: each cell across it has a sign, and each board its cells."""

    def __init__(self, trunk, measures):
        self.shape, self.long, self.flaws = trunk
        self.saw, self.edge, self.narrow, self.short, _, self.rules = measures
        self.left = cells_of(self.shape)
        self.signs = {cell: "#" for cell in self.left}
        self.side = 0
        self.boards = []

    def do(self, deed):
        """None, or the refusal's name and field."""
        if not self.left:
            return ("NoBlock",)
        if deed == ("turn",):
            self.side = (self.side + 1) % 4
            return None
        depth = 1 if self.side in (0, 2) else 0
        lines = sorted({cell[depth] for cell in self.left}, reverse=self.side in (1, 2))
        thick = deed[1]
        if thick > len(lines):
            return ("TooThick", len(lines))
        self.edge_layer(depth, lines[:thick])
        for cell in [cell for cell in self.left if cell[depth] in lines[thick:thick + self.saw]]:
            self.signs[cell] = "-"
        self.left = {cell for cell in self.left if cell[depth] not in lines[:thick + self.saw]}
        return None

    def edge_layer(self, depth, lines):
        layer = {cell for cell in self.left if cell[depth] in lines}
        across = 1 - depth
        places = [{cell[across] for cell in layer if cell[depth] == line} for line in lines]
        common = sorted(set.intersection(*places))
        sign = "="
        if common and len(common) >= self.narrow:
            board = self.board(tight_of({cell for cell in layer if cell[across] in common}), depth)
            if board is not None:
                sign = chr(ord("a") + len(self.boards))
                self.boards.append(board)
        else:
            common = []
        for cell in layer:
            away = min([abs(cell[across] - place) for place in common], default=self.edge + 1)
            self.signs[cell] = sign if away == 0 else "-" if away <= self.edge else "="

    def board(self, box, depth):
        left, top, wide, high = box
        body = (left, top, 0, wide, high, self.long)
        grade = grade_by_cells(body, self.flaws, self.rules)
        if self.long < self.short or grade is None:
            return None
        return (body, "x" if depth == 1 else "y", grade)

    def told(self):
        """What is told of the trunk: as by sawn."""
        box = tight_of(self.left)
        signs = list(self.signs.values())
        block = None if box is None else (box, SIDES[self.side])
        return (self.boards, block, signs.count("=") * self.long, signs.count("-") * self.long)

    def rows(self):
        """The picture."""
        wide = max(hi for _, hi in self.shape)
        return ["".join(self.signs.get((x, y), ".") for x in range(wide)) for y in range(len(self.shape))]


def places_of(body):
    """The places of a body along each of the three ways."""
    return [set(range(body[k], body[k] + body[k + 3])) for k in range(3)]


def meet_by_cells(one, other):
    return all(mine & theirs for mine, theirs in zip(places_of(one), places_of(other)))


def grade_by_cells(body, flaws, rules):
    kinds = [kind for kind, where in flaws if meet_by_cells(body, where)]
    kept = [grade for grade, barred, most in rules if not set(kinds) & set(barred) and len(kinds) <= most]
    return kept[0] if kept else None


def part_by_places(body, axis, places):
    part = list(body)
    part[axis] = places[0]
    part[axis + 3] = len(places)
    return tuple(part)


def parted_by_places(board, axis, many, flaws, measures):
    """What is told of a board parted along an axis, from its places in a row."""
    body, way, _ = board
    _, edge, narrow, short, _, rules = measures
    places = list(range(body[axis], body[axis] + body[axis + 3]))
    across = body[3] * body[4] * body[5] // len(places)
    parts = []
    slab = 0
    for some in (places[:many], places[many + edge:]):
        part = part_by_places(body, axis, some) if some else None
        grade = None if part is None else grade_by_cells(part, flaws, rules)
        if grade is None or part[3 if way == "x" else 4] < narrow or part[5] < short:
            slab += len(some) * across
            parts.append(None)
        else:
            parts.append((part, way, grade))
    return (parts[0], parts[1], slab, len(places[many:many + edge]) * across)


def sawn_slowly(trunk, measures, deeds):
    """The saw behind the deeds, and the first refusal or None."""
    saw = SlowSaw(trunk, measures)
    for deed in deeds:
        refusal = saw.do(deed)
        if refusal is not None:
            return (saw, refusal)
    return (saw, None)


def told_of(error):
    """A refusal's name and fields; of a refusal among them likewise."""
    fields = [told_of(field) if isinstance(field, SawError) else field for field in vars(error).values()]
    return (error.__class__.__name__, *fields)


def hold_refused(case, refusal, function, *things):
    """The call is refused with just this: a name and fields; what is handed in stays as it was."""
    kept = repr(things)
    for _ in range(2):
        try:
            function(*things)
        except SawError as caught:
            case.assertEqual(repr(told_of(caught)), repr(refusal), things)
        else:
            case.fail(f"not refused: {things}")
        case.assertEqual(repr(things), kept)


def hold_by_cells(case, function, trunk, measures, deeds):
    """The answer and the slow saw behind the deeds; None where both refuse them alike."""
    slow, refusal = sawn_slowly(trunk, measures, deeds)
    if refusal is not None:
        hold_refused(case, refusal, function, trunk, measures, deeds)
        return None
    return (asked(case, function, trunk, measures, deeds), slow)


class SlowYard:
    """What is in a mill behind some entries: night by night, and its wood cell by cell."""

    def __init__(self, measures, entries=()):
        self.measures = measures
        self.day = 0
        self.saws = {}
        self.waste = {}
        # Boards by names: trunk's name, board, nights, stack's name or None.
        self.boards = {}
        self.ever = []
        self.stacks = {}
        self.orders = {}
        self.given = {}
        self.homes = {}
        self.refused = None
        for number, (day, deed) in enumerate(entries):
            self.wait(day)
            refusal = self.do(deed)
            if refusal is not None:
                self.refused = (number, refusal)
                break

    def wait(self, day):
        while self.day < day:
            self.day += 1
            for row in self.boards.values():
                row[2] += 0 if row[3] is None else 1

    def do(self, deed):
        """None, or the refusal's name and fields."""
        return getattr(self, "do_" + deed[0])(*deed[1:])

    def do_trunk(self, name, trunk):
        if name in self.saws:
            return ("Taken", name)
        self.saws[name] = SlowSaw(trunk, self.measures)
        self.waste[name] = [0, 0]
        return None

    def do_turn(self, name):
        if name not in self.saws:
            return ("NoTrunk", name)
        return self.saws[name].do(("turn",))

    def do_cut(self, home, thick, name):
        if home not in self.saws:
            return ("NoTrunk", home)
        if name in self.ever:
            return ("Taken", name)
        many = len(self.saws[home].boards)
        refusal = self.saws[home].do(("cut", thick))
        for board in self.saws[home].boards[many:]:
            self.add(name, home, board, 0)
        return refusal

    def add(self, name, home, board, nights):
        self.boards[name] = [home, board, nights, None]
        self.ever.append(name)

    def do_rip(self, name, breadth, other_name):
        return self.part(name, breadth, other_name, True)

    def do_cross(self, name, long, other_name):
        return self.part(name, long, other_name, False)

    def part(self, name, many, other_name, ripped):
        if name not in self.boards:
            return ("NoBoard", name)
        if other_name in self.ever:
            return ("Taken", other_name)
        home, board, nights, stack = self.boards[name]
        if stack is not None:
            return ("Stacked", stack)
        axis = 2 if not ripped else 0 if board[1] == "x" else 1
        if many >= board[0][axis + 3]:
            return ("TooBroad" if ripped else "TooLong", board[0][axis + 3])
        one, other, slab, dust = parted_by_places(board, axis, many, self.saws[home].flaws, self.measures)
        del self.boards[name]
        for part, its_name in ((one, name), (other, other_name)):
            if part is not None:
                self.add(its_name, home, part, nights)
        self.waste[home][0] += slab
        self.waste[home][1] += dust
        return None

    def do_stack(self, stack, name):
        if name not in self.boards:
            return ("NoBoard", name)
        if self.boards[name][3] is not None:
            return ("Stacked", self.boards[name][3])
        pile = self.stacks.get(stack, [])
        if pile and self.measured(pile[-1])[1] < self.measured(name)[1]:
            return ("Overhang", pile[-1])
        self.stacks[stack] = pile + [name]
        self.boards[name][3] = stack
        return None

    def measured(self, name):
        """A board's thick, breadth and long."""
        (_, _, _, wide, high, long), way, _ = self.boards[name][1]
        return (high, wide, long) if way == "x" else (wide, high, long)

    def do_off(self, name):
        if name not in self.boards:
            return ("NoBoard", name)
        stack = self.boards[name][3]
        if stack is None:
            return ("NotStacked",)
        if self.stacks[stack][-1] != name:
            above = self.stacks[stack][self.stacks[stack].index(name) + 1:]
            return ("Beneath", above[::-1])
        self.boards[name][3] = None
        self.stacks[stack] = self.stacks[stack][:-1]
        return None

    def do_order(self, name, day, *order):
        if name in self.orders or name in self.given:
            return ("Taken", name)
        if order[0] not in [grade for grade, _, _ in self.measures[5]]:
            return ("NoGrade",)
        self.orders[name] = (day, order)
        return None

    def do_fill(self, order_name, name):
        if order_name not in self.orders:
            return ("NoOrder", order_name)
        if name not in self.boards:
            return ("NoBoard", name)
        home, board, nights, stack = self.boards[name]
        if stack is not None:
            return ("Stacked", stack)
        day, order = self.orders[order_name]
        wrong = self.words(name, order)
        wrong += ["wet"] * (nights < self.measures[4] * self.measured(name)[0]) + ["late"] * (self.day > day)
        if wrong:
            return ("Misfit", wrong[0])
        self.given[order_name] = (name, board)
        self.homes[order_name] = home
        del self.boards[name], self.orders[order_name]
        return None

    def words(self, name, order):
        """All words by which a board doesn't fit an order."""
        grades = [grade for grade, _, _ in self.measures[5]]
        grade, thick, breadth, long = order
        its_thick, its_breadth, its_long = self.measured(name)
        return (
            ["grade"] * (grades.index(self.boards[name][1][2]) > grades.index(grade)) + ["thick"] * (its_thick != thick)
            + ["breadth"] * (its_breadth < breadth) + ["long"] * (its_long < long)
        )

    def could(self):
        """The pairs of an open order's and a board's name of which each could be filled by the other."""
        return [
            (name, board) for name, (day, order) in self.orders.items() for board in self.boards
            if day >= self.day and not self.words(board, order) and self.nights_at(board, day) >=
            self.measures[4] * self.measured(board)[0]
        ]

    def nights_at(self, name, day):
        return self.boards[name][2] + (0 if self.boards[name][3] is None else day - self.day)

    def wood(self, name):
        boards = [board for home, board, _, _ in self.boards.values() if home == name]
        boards += [self.given[order][1] for order in self.given if self.homes[order] == name]
        _, _, slab, dust = self.saws[name].told()
        cells = sum(body[3] * body[4] * body[5] for body, _, _ in boards)
        left = len(self.saws[name].left) * self.saws[name].long
        return (cells, slab + self.waste[name][0], dust + self.waste[name][1], left)

    def told(self):
        """All that a mill tells: boards, given, stacks, orders, and of each trunk its block and wood."""
        return (
            {name: tuple(row) for name, row in self.boards.items()}, self.given,
            {stack: pile for stack, pile in self.stacks.items() if pile}, self.orders,
            {name: (saw.told()[1], self.wood(name)) for name, saw in self.saws.items()},
        )


class SlowMill:
    """Entries alone: all is done anew for each question."""

    def __init__(self, measures):
        self.measures = measures
        self.entries = []

    def enter(self, day, deed):
        """None, or the refusal."""
        at = len([other for other, _ in self.entries if other <= day])
        return self.take(self.entries[:at] + [(day, deed)] + self.entries[at:], at)

    def out(self, number):
        return self.take(self.entries[:number] + self.entries[number + 1:], None)

    def take(self, entries, new):
        refused = SlowYard(self.measures, entries).refused
        if refused is None:
            self.entries = entries
            return None
        number, refusal = refused
        return refusal if number == new else ("Hindered", number, refusal)

    def at(self, day):
        """The yard at a day."""
        yard = SlowYard(self.measures, [entry for entry in self.entries if entry[0] <= day])
        yard.wait(day)
        return yard


def all_deeds(thicks, many):
    """Every row of at most so many deeds with cuts of these thicks."""
    each = [("turn",)] + [("cut", thick) for thick in thicks]
    for count in range(many + 1):
        for deeds in product(each, repeat=count):
            yield list(deeds)


def paid(board, prices):
    """A board's worth, row by row."""
    (_, _, _, wide, high, _), way, grade = board
    broad, thick = (wide, high) if way == "x" else (high, wide)
    return max([0] + [row[3] for row in prices if row[:2] == (grade, thick) and row[2] <= broad])


def board(grade, thick, breadth, long, way="x"):
    """A board of these measures, that doesn't begin at 0."""
    wide, high = (breadth, thick) if way == "x" else (thick, breadth)
    return ((4, 2, 1, wide, high, long), way, grade)


def names(many, letter):
    """So many names, rising."""
    return [letter + chr(97 + k // 26) + chr(97 + k % 26) for k in range(many)]


def nested(leaf, wrap, many=30):
    """The leaf within so many things, each within another."""
    for _ in range(many):
        leaf = wrap(leaf)
    return leaf


def odd_things():
    """Things of any kind, within one another too."""
    leaves = [None, True, False, 0, 1, -1, 7, 10 ** 60, -(10 ** 60), "", "a", "cut", "A", "5", "x" * 300]
    inner = [(), [], {}, (0,), [0], {"a": 0}, {0: None}, ("a",), ["a"], ((), ()), [[], []], ("a", "b"), (0, 0)]
    wraps = [lambda x: (x,), lambda x: [x], lambda x: {"a": x}, lambda x: (x, x), lambda x: [(x, None)]]
    deep = [nested(leaf, wrap) for leaf in (None, 3, "a", ()) for wrap in (wraps[0], wraps[1], wraps[2], wraps[4])]
    return leaves + inner + [wrap(thing) for wrap in wraps for thing in leaves + inner] + deep


def spoilt(thing):
    """The tuple with each of its parts, however deep, exchanged for odd ones, left out, or told twice."""
    if isinstance(thing, tuple):
        for k, part in enumerate(thing):
            yield thing[:k] + thing[k + 1:]
            yield thing[:k] + (part, part) + thing[k + 1:]
            for other in spoilt(part):
                yield thing[:k] + (other,) + thing[k + 1:]
        yield list(thing)
        yield {part: None for part in thing}
    yield from (None, True, "", [], {}, (), -1, "A1", nested(thing, lambda x: (x,), 3), str(thing))


def hold_soon(case, function, *things):
    """The answer, which must be there within a few seconds, on a slow machine too."""
    begun = perf_counter()
    told = function(*things)
    case.assertLess(perf_counter() - begun, 10)
    return told


DAY = 10


def mill_of(measures, *entries):
    """A mill with these entries, entered as they stand."""
    mill = Mill(measures)
    for day, deed in entries:
        mill.enter(day, deed)
    return mill


def told(mill, day):
    """All that is told of a mill at a day."""
    trunks = {deed[1] for when, deed in mill.entries() if deed[0] == "trunk" and when <= day}
    return (
        mill.boards(day), mill.given(day), mill.stacks(day), mill.orders(day), mill.could(day),
        [(name, mill.block(day, name), mill.wood(day, name)) for name in sorted(trunks)],
    )


def hold_unchanged(case, refusal, mill, change, *things):
    """A change of the mill is refused with just this, and nothing is changed by it."""
    days = (1, DAY - 1, DAY, DAY + 1, DAY + 5, 10 ** 6)
    kept = (mill.entries(), [told(mill, day) for day in days])
    hold_refused(case, refusal, change, *things)
    same(case, (mill.entries(), [told(mill, day) for day in days]), kept)
