"""Whether something is a paper of the most orders that boards can fill: so that no more can be filled."""

from sawtrunk.fitting import fits


def most_holds(orders, boards, rules, thing):
    """Of anything: whether it is such a paper."""
    if not _is_pair(thing) or not _is_pair(thing[1]):
        return False
    pairs, (some_orders, some_boards) = thing
    if not _are_pairs(pairs) or not _are_names(some_orders, orders) or not _are_names(some_boards, boards):
        return False
    if len(pairs) != len(some_orders) + len(some_boards):
        return False
    return _pairs_hold(orders, boards, rules, pairs) and _covers(orders, boards, rules, some_orders, some_boards)


def _is_pair(thing):
    return isinstance(thing, tuple) and len(thing) == 2


def _are_pairs(thing):
    """Whether it is a tuple of rising pairs of texts."""
    if not isinstance(thing, tuple):
        return False
    if not all([_is_pair(pair) and isinstance(pair[0], str) and isinstance(pair[1], str) for pair in thing]):
        return False
    return _is_rising(thing)


def _are_names(thing, things):
    """Whether it is a tuple of rising names of these things."""
    if not isinstance(thing, tuple):
        return False
    return all([isinstance(name, str) and name in things for name in thing]) and _is_rising(thing)


def _is_rising(row):
    return all([one < other for one, other in zip(row, row[1:])])


def _pairs_hold(orders, boards, rules, pairs):
    """Whether the pairs are of names that are there, each in one alone, and each board fits its order."""
    for order, board in pairs:
        if order not in orders or board not in boards or not fits(boards[board], orders[order], rules):
            return False
    return len({order for order, _ in pairs}) == len(pairs) and len({board for _, board in pairs}) == len(pairs)


def _covers(orders, boards, rules, some_orders, some_boards):
    """Whether each order and board that fit one another have one of their names among these."""
    for order in orders:
        for board in boards:
            if order not in some_orders and board not in some_boards and fits(boards[board], orders[order], rules):
                return False
    return True
