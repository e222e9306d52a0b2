"""Papers (pairs, cover) of the most pairs of an order and a board that fits it.

What fits is told by a dict from orders' names to lists of boards' names. All goes by the order in
which these stand, so who has them rising is told the same paper each time.
"""


def paper_of(fitting):
    """The pairs, as many as can be, and as many names that leave nothing fitting without one of them."""
    partners = _partners(fitting)
    pairs = sorted([(order, board) for board, order in partners.items()])
    return (tuple(pairs), _cover(fitting, partners))


def _partners(fitting):
    """The orders of as many boards as can be, by the boards' names."""
    partners = {}
    for order in fitting:
        _give_board(fitting, partners, order, {})
    return partners


def _give_board(fitting, partners, order, tried):
    """Give the order a board, where need be one whose order can be given another; tell whether it got one."""
    for board in fitting[order]:
        if board not in tried:
            tried[board] = True
            if board not in partners or _give_board(fitting, partners, partners[board], tried):
                partners[board] = order
                return True
    return False


def _cover(fitting, partners):
    """The orders that no chain of changes from an order without a board reaches, and the boards that one does."""
    served = list(partners.values())
    orders = {order: True for order in fitting if order not in served}
    boards = {}
    waiting = list(orders)
    while waiting:
        order = waiting.pop()
        for board in fitting[order]:
            if board not in boards:
                # It has an order: else the chain to it would have made a pair more.
                boards[board] = True
                orders[partners[board]] = True
                waiting.append(partners[board])
    return (tuple([order for order in sorted(fitting) if order not in orders]), tuple(sorted(boards)))
