"""Of anything: what kind of thing it is."""

_LETTERS = "abcdefghijklmnopqrstuvwxyz"
_LAST_DAY = 10 ** 6


def is_whole(thing):
    """Whether it is an int that is no truth."""
    return isinstance(thing, int) and not isinstance(thing, bool)


def is_numbers(thing, leasts):
    """Whether it is a tuple of as many whole numbers as there are leasts, none below its own."""
    if not isinstance(thing, tuple) or len(thing) != len(leasts):
        return False
    return all([is_whole(number) and number >= least for number, least in zip(thing, leasts)])


def is_name(thing):
    """Whether it is a text of one to eight small letters."""
    return isinstance(thing, str) and 1 <= len(thing) <= 8 and all([sign in _LETTERS for sign in thing])


def is_day(thing):
    """Whether it is a whole number from 1 to 10 ** 6."""
    return is_whole(thing) and 1 <= thing <= _LAST_DAY
