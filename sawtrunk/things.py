"""Of anything: what kind of thing it is."""


def is_whole(thing):
    """Whether it is an int that is no truth."""
    return isinstance(thing, int) and not isinstance(thing, bool)


def is_numbers(thing, leasts):
    """Whether it is a tuple of as many whole numbers as there are leasts, none below its own."""
    if not isinstance(thing, tuple) or len(thing) != len(leasts):
        return False
    return all([is_whole(number) and number >= least for number, least in zip(thing, leasts)])
