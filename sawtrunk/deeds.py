"""The deeds that are done in a mill: tuples of a word and parts of these kinds."""

from sawtrunk.shapes import is_shape
from sawtrunk.things import is_name, is_numbers, is_whole

_FORMS = {
    "trunk": ("name", "trunk"),
    "turn": ("name",),
    "cut": ("name", "number", "name"),
    "rip": ("name", "number", "name"),
    "cross": ("name", "number", "name"),
    "stack": ("name", "name"),
    "off": ("name",),
    "order": ("name", "number", "name", "number", "number", "number"),
    "fill": ("name", "name"),
}


def form_of(word):
    """The kinds of the parts behind a deed's word; None where no deed has this word."""
    return _FORMS.get(word)


def is_deed(thing):
    """Of anything: whether it is a deed."""
    if not isinstance(thing, tuple) or len(thing) == 0 or not isinstance(thing[0], str):
        return False
    form = form_of(thing[0])
    if form is None or len(thing) != 1 + len(form):
        return False
    return all([_is_part(kind, part) for kind, part in zip(form, thing[1:])])


def _is_part(kind, thing):
    if kind == "name":
        return is_name(thing)
    if kind == "number":
        return is_whole(thing) and thing >= 1
    return _is_trunk(thing)


def _is_trunk(thing):
    if not isinstance(thing, tuple) or len(thing) != 3:
        return False
    shape, long, flaws = thing
    if not is_shape(shape) or not is_whole(long) or long < 1:
        return False
    return isinstance(flaws, tuple) and all([_is_flaw(flaw) for flaw in flaws])


def _is_flaw(thing):
    if not isinstance(thing, tuple) or len(thing) != 2:
        return False
    kind, body = thing
    return is_name(kind) and is_numbers(body, (0, 0, 0, 1, 1, 1))
