"""Mills written as texts, a line for the measures and one for each entry, and read again."""

from sawtrunk.errors import NoLine, SawError
from sawtrunk.mill import Mill
from sawtrunk.words import deed_of, deed_text, measures_of, measures_text, number_of


def written(mill):
    """The text of a mill."""
    return "\n".join([measures_text(mill.measures)] + [f"{day} {deed_text(deed)}" for day, deed in mill.entries()])


def read(text):
    """The mill that a text writes."""
    if not isinstance(text, str):
        raise NoLine(0)
    lines = text.split("\n")
    measures = measures_of(lines[0].split(" "))
    if measures is None:
        raise NoLine(0)
    mill = Mill(measures)
    last = 0
    for number in range(1, len(lines)):
        day = _entered(mill, lines[number], last)
        if day is None:
            raise NoLine(number)
        last = day
    return mill


def _entered(mill, line, last):
    """The day of a line that is entered behind a last day; None where it isn't so written, or refused."""
    first, *words = line.split(" ")
    day = number_of(first)
    deed = deed_of(words)
    if day is None or day < last or deed is None:
        return None
    try:
        mill.enter(day, deed)
    except SawError:
        return None
    return day
