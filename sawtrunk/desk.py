"""A desk: a mill that is told rows of words, and answers each with a text."""

from sawtrunk.errors import NoRow
from sawtrunk.mill import Mill
from sawtrunk.parting import breadth_of, long_of, thick_of
from sawtrunk.texts import written
from sawtrunk.things import is_day, is_name
from sawtrunk.words import deed_of, most_figures, number_of

_MOST_FIGURES = 10
_DONE = "ok"
_NONE = "-"

# What stands behind the first word of each row but that of a new entry.
_FORMS = {
    "out": ("number",), "boards": ("day",), "wood": ("day", "name"), "stacks": ("day",), "orders": ("day",),
    "could": ("day",), "entries": (), "mill": (),
}


def _enter(mill, parts):
    day, deed = parts
    mill.enter(day, deed)
    return _DONE


def _out(mill, parts):
    mill.out(parts[0])
    return _DONE


def _boards(mill, parts):
    boards = mill.boards(parts[0])
    return _listed([_board_text(name, boards[name]) for name in sorted(boards)], "; ")


def _board_text(name, told):
    _, board, nights, place = told
    where = _NONE if place is None else place
    return f"{name} {board[2]} {thick_of(board)} {breadth_of(board)} {long_of(board)} {nights} {where}"


def _wood(mill, parts):
    day, name = parts
    return " ".join([str(many) for many in mill.wood(day, name)])


def _stacks(mill, parts):
    stacks = mill.stacks(parts[0])
    return _listed([" ".join([name] + stacks[name]) for name in sorted(stacks)], "; ")


def _orders(mill, parts):
    return _listed(sorted(mill.orders(parts[0])), " ")


def _could(mill, parts):
    pairs, _ = mill.could(parts[0])
    return str(len(pairs))


def _entries(mill, _):
    return str(len(mill.entries()))


def _mill(mill, _):
    return written(mill)


_ANSWERS = {
    "enter": _enter, "out": _out, "boards": _boards, "wood": _wood, "stacks": _stacks, "orders": _orders,
    "could": _could, "entries": _entries, "mill": _mill,
}


def _listed(texts, between):
    """The texts with something between, or what is told of none."""
    if not texts:
        return _NONE
    return between.join(texts)


def _parts_of(words):
    """What stands behind the first word of a row; None where the words are no row."""
    if words[0] == "enter":
        return _entry_of(words[1:])
    form = _FORMS.get(words[0])
    if form is None or len(words) != 1 + len(form):
        return None
    parts = [_part_of(kind, word) for kind, word in zip(form, words[1:])]
    return None if None in parts else parts


def _entry_of(words):
    """The day, any number, and the deed of a new entry; None where words write none."""
    day = number_of(words[0]) if words else None
    deed = deed_of(words[1:])
    return None if day is None or deed is None else [day, deed]


def _part_of(kind, word):
    if kind == "name":
        return word if is_name(word) else None
    number = number_of(word)
    if kind == "day" and not is_day(number):
        return None
    return number


class Desk:
    """A mill of these measures, asked and told by rows."""

    def __init__(self, measures):
        self._mill = Mill(measures)

    def say(self, row):
        """The answer to a row."""
        if not isinstance(row, str) or most_figures(row) > _MOST_FIGURES:
            raise NoRow("what is told is no row")
        words = row.split(" ")
        parts = _parts_of(words)
        if parts is None:
            raise NoRow("what is told is no row")
        answer = _ANSWERS[words[0]]
        return answer(self._mill, parts)
