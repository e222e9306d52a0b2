"""What the tests share: asking twice, refusals, and slow answers that go through every cell."""

from copy import deepcopy
from itertools import product
from time import perf_counter

from sawtrunk.errors import SawError


def asked(case, function, *things):
    """The answer of a function; it must be the same twice, and leave what is handed in as it was."""
    kept = deepcopy(things)
    first = function(*things)
    again = function(*things)
    # repr tells True from 1 and a list from a tuple.
    case.assertEqual(repr(first), repr(again))
    case.assertEqual(repr(things), repr(kept))
    return first


def same(case, told, wanted, *why):
    """The two are equal and of the same kinds throughout."""
    case.assertEqual(repr(told), repr(wanted), why)


def cells_of(shape):
    return {(x, y) for y, (lo, hi) in enumerate(shape) for x in range(lo, hi)}


def cells_in(shape, box):
    left, top, wide, high = box
    return {(x, y) for x, y in cells_of(shape) if left <= x < left + wide and top <= y < top + high}


def tight_of(cells):
    """The least box around cells; None without any."""
    if not cells:
        return None
    xs = [x for x, _ in cells]
    ys = [y for _, y in cells]
    return (min(xs), min(ys), max(xs) - min(xs) + 1, max(ys) - min(ys) + 1)


def is_shape_by_cells(rows):
    """Of rows (lo, hi) with 0 <= lo < hi: the two rules of a shape, cell by cell."""
    for one, other in zip(rows, rows[1:]):
        if not set(range(*one)) & set(range(*other)):
            return False
    cells = cells_of(rows)
    for x, y in cells:
        for below in range(y + 1, len(rows)):
            if (x, below) in cells and any((x, k) not in cells for k in range(y, below)):
                return False
    return True


def rows_within(wide):
    return [(lo, hi) for lo in range(wide) for hi in range(lo + 1, wide + 1)]


def small_shapes(wide, high):
    """Every shape of at most so many columns and rows."""
    for many in range(1, high + 1):
        for rows in product(rows_within(wide), repeat=many):
            if is_shape_by_cells(rows):
                yield rows


def small_boxes(wide, high):
    return list(product(range(wide + 1), range(high + 1), range(1, wide + 2), range(1, high + 2)))


SIDES = ("above", "right", "below", "left")


class SlowSaw:
    """A trunk sawn cell by cell: each cell across it has a sign, and each board its cells."""

    def __init__(self, trunk, measures):
        self.shape, self.long, self.flaws = trunk
        self.saw, self.edge, self.narrow, self.short, _, self.rules = measures
        self.left = cells_of(self.shape)
        self.signs = {cell: "#" for cell in self.left}
        self.side = 0
        self.boards = []

    def do(self, deed):
        """None, or the refusal's name and field."""
        if not self.left:
            return ("NoBlock",)
        if deed == ("turn",):
            self.side = (self.side + 1) % 4
            return None
        depth = 1 if self.side in (0, 2) else 0
        lines = sorted({cell[depth] for cell in self.left}, reverse=self.side in (1, 2))
        thick = deed[1]
        if thick > len(lines):
            return ("TooThick", len(lines))
        self.edge_layer(depth, lines[:thick])
        for cell in [cell for cell in self.left if cell[depth] in lines[thick:thick + self.saw]]:
            self.signs[cell] = "-"
        self.left = {cell for cell in self.left if cell[depth] not in lines[:thick + self.saw]}
        return None

    def edge_layer(self, depth, lines):
        layer = {cell for cell in self.left if cell[depth] in lines}
        across = 1 - depth
        places = [{cell[across] for cell in layer if cell[depth] == line} for line in lines]
        common = sorted(set.intersection(*places))
        sign = "="
        if common and len(common) >= self.narrow:
            board = self.board(tight_of({cell for cell in layer if cell[across] in common}), depth)
            if board is not None:
                sign = chr(ord("a") + len(self.boards))
                self.boards.append(board)
        else:
            common = []
        for cell in layer:
            away = min([abs(cell[across] - place) for place in common], default=self.edge + 1)
            self.signs[cell] = sign if away == 0 else "-" if away <= self.edge else "="

    def board(self, box, depth):
        left, top, wide, high = box
        body = (left, top, 0, wide, high, self.long)
        grade = grade_by_cells(body, self.flaws, self.rules)
        if self.long < self.short or grade is None:
            return None
        return (body, "x" if depth == 1 else "y", grade)

    def told(self):
        """What is told of the trunk: as by sawn."""
        box = tight_of(self.left)
        signs = list(self.signs.values())
        block = None if box is None else (box, SIDES[self.side])
        return (self.boards, block, signs.count("=") * self.long, signs.count("-") * self.long)

    def rows(self):
        """The picture."""
        wide = max(hi for _, hi in self.shape)
        return ["".join(self.signs.get((x, y), ".") for x in range(wide)) for y in range(len(self.shape))]


def places_of(body):
    """The places of a body along each of the three ways."""
    return [set(range(body[k], body[k] + body[k + 3])) for k in range(3)]


def meet_by_cells(one, other):
    return all(mine & theirs for mine, theirs in zip(places_of(one), places_of(other)))


def grade_by_cells(body, flaws, rules):
    kinds = [kind for kind, where in flaws if meet_by_cells(body, where)]
    kept = [grade for grade, barred, most in rules if not set(kinds) & set(barred) and len(kinds) <= most]
    return kept[0] if kept else None


def sawn_slowly(trunk, measures, deeds):
    """The saw behind the deeds, and the first refusal or None."""
    saw = SlowSaw(trunk, measures)
    for deed in deeds:
        refusal = saw.do(deed)
        if refusal is not None:
            return (saw, refusal)
    return (saw, None)


def hold_refused(case, refusal, function, *things):
    """The call is refused with just this: a name and fields; what is handed in stays as it was."""
    kept = repr(things)
    for _ in range(2):
        try:
            function(*things)
        except SawError as caught:
            case.assertEqual((caught.__class__.__name__,) + tuple(vars(caught).values()), refusal, things)
        else:
            case.fail(f"not refused: {things}")
        case.assertEqual(repr(things), kept)


def hold_by_cells(case, function, trunk, measures, deeds):
    """The answer and the slow saw behind the deeds; None where both refuse them alike."""
    slow, refusal = sawn_slowly(trunk, measures, deeds)
    if refusal is not None:
        hold_refused(case, refusal, function, trunk, measures, deeds)
        return None
    return (asked(case, function, trunk, measures, deeds), slow)


def all_deeds(thicks, many):
    """Every row of at most so many deeds with cuts of these thicks."""
    each = [("turn",)] + [("cut", thick) for thick in thicks]
    for count in range(many + 1):
        for deeds in product(each, repeat=count):
            yield list(deeds)


def paid(board, prices):
    """A board's worth, row by row."""
    (_, _, _, wide, high, _), way, grade = board
    broad, thick = (wide, high) if way == "x" else (high, wide)
    return max([0] + [row[3] for row in prices if row[:2] == (grade, thick) and row[2] <= broad])


def board(grade, thick, breadth, long, way="x"):
    """A board of these measures, that doesn't begin at 0."""
    wide, high = (breadth, thick) if way == "x" else (thick, breadth)
    return ((4, 2, 1, wide, high, long), way, grade)


def names(many, letter):
    """So many names, rising."""
    return [letter + chr(97 + k // 26) + chr(97 + k % 26) for k in range(many)]


def nested(leaf, wrap, many=30):
    """The leaf within so many things, each within another."""
    for _ in range(many):
        leaf = wrap(leaf)
    return leaf


def odd_things():
    """Things of any kind, within one another too."""
    leaves = [None, True, False, 0, 1, -1, 7, 10 ** 60, -(10 ** 60), "", "a", "cut", "A", "5", "x" * 300]
    inner = [(), [], {}, (0,), [0], {"a": 0}, {0: None}, ("a",), ["a"], ((), ()), [[], []], ("a", "b"), (0, 0)]
    wraps = [lambda x: (x,), lambda x: [x], lambda x: {"a": x}, lambda x: (x, x), lambda x: [(x, None)]]
    deep = [nested(leaf, wrap) for leaf in (None, 3, "a", ()) for wrap in (wraps[0], wraps[1], wraps[2], wraps[4])]
    return leaves + inner + [wrap(thing) for wrap in wraps for thing in leaves + inner] + deep


def spoilt(thing):
    """The tuple with each of its parts, however deep, exchanged for odd ones, left out, or told twice."""
    if isinstance(thing, tuple):
        for k, part in enumerate(thing):
            yield thing[:k] + thing[k + 1:]
            yield thing[:k] + (part, part) + thing[k + 1:]
            for other in spoilt(part):
                yield thing[:k] + (other,) + thing[k + 1:]
        yield list(thing)
        yield {part: None for part in thing}
    yield from (None, True, "", [], {}, (), -1, "A1", nested(thing, lambda x: (x,), 3), str(thing))


def hold_soon(case, function, *things):
    """The answer, which must be there within a few seconds, on a slow machine too."""
    begun = perf_counter()
    told = function(*things)
    case.assertLess(perf_counter() - begun, 10)
    return told
