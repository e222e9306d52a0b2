"""Deeds and measures as words: how they are written and read."""

from sawtrunk.deeds import form_of
from sawtrunk.things import is_name, is_numbers

_FIGURES = "0123456789"


def number_of(word):
    """The number that a word writes; None where it writes none."""
    if word == "" or any([sign not in _FIGURES for sign in word]):
        return None
    if word[0] == "0" and word != "0":
        return None
    return int(word)


def most_figures(text):
    """The most figures that stand side by side in a text."""
    most = 0
    many = 0
    for sign in text:
        many = many + 1 if sign in _FIGURES else 0
        most = max(most, many)
    return most


def deed_text(deed):
    """A deed as it is written."""
    if deed[0] != "trunk":
        return _joined(deed)
    _, name, (shape, long, flaws) = deed
    rows = [f"{lo}-{hi}" for lo, hi in shape]
    return " | ".join([_joined(["trunk", name, long] + rows)] + [f"{kind} {_joined(body)}" for kind, body in flaws])


def measures_text(measures):
    """A mill's measures as they are written."""
    saw, edge, narrow, short, slow, rules = measures
    head = _joined(["mill", saw, edge, narrow, short, slow])
    return " | ".join([head] + [_joined([grade, most] + list(barred)) for grade, barred, most in rules])


def _joined(parts):
    return " ".join([str(part) for part in parts])


def deed_of(words):
    """The deed that words write, whatever its numbers are; None where they write none."""
    if words[:1] == ["trunk"]:
        return _trunk_deed_of(words)
    form = form_of(words[0]) if words else None
    if form is None or len(words) != 1 + len(form):
        return None
    parts = [_part_of(kind, word) for kind, word in zip(form, words[1:])]
    return None if None in parts else tuple(words[:1] + parts)


def _part_of(kind, word):
    if kind == "number":
        return number_of(word)
    return word if is_name(word) else None


def _trunk_deed_of(words):
    head, *sections = _sections(words)
    if len(head) < 4 or not is_name(head[1]):
        return None
    long = number_of(head[2])
    shape = [_row_of(word) for word in head[3:]]
    flaws = [_flaw_of(section) for section in sections]
    if long is None or None in shape or None in flaws:
        return None
    return ("trunk", head[1], (tuple(shape), long, tuple(flaws)))


def _sections(words):
    """The words up to the first bar, and those behind each bar."""
    sections = [[]]
    for word in words:
        if word == "|":
            sections.append([])
        else:
            sections[-1].append(word)
    return sections


def _row_of(word):
    ends = word.split("-")
    return _numbers_of(ends) if len(ends) == 2 else None


def _flaw_of(words):
    if len(words) != 7 or not is_name(words[0]):
        return None
    body = _numbers_of(words[1:])
    return None if body is None else (words[0], body)


def _numbers_of(words):
    """The numbers that words write; None where one of them writes none."""
    numbers = [number_of(word) for word in words]
    return None if None in numbers else tuple(numbers)


def measures_of(words):
    """The measures that words write; None where they write none."""
    head, *sections = _sections(words)
    numbers = _numbers_of(head[1:])
    rules = [_rule_of(section) for section in sections]
    if head[:1] != ["mill"] or None in rules or not _are_measures(numbers, rules):
        return None
    return numbers + (tuple(rules),)


def _rule_of(words):
    if len(words) < 2 or not is_name(words[0]) or not all([is_name(kind) for kind in words[2:]]):
        return None
    most = number_of(words[1])
    return None if most is None else (words[0], tuple(words[2:]), most)


def _are_measures(numbers, rules):
    """Whether these are saw, edge, narrow, short and slow, or None, and rules."""
    if not is_numbers(numbers, (0, 0, 1, 1, 0)) or not rules:
        return False
    saw, edge, _, _, slow = numbers
    return saw <= 3 and edge <= 3 and slow <= 30 and len({rule[0] for rule in rules}) == len(rules)
