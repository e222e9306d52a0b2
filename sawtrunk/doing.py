"""What each deed does in a yard, and why it is refused."""

from sawtrunk.blocks import whole_block
from sawtrunk.errors import Misfit, NoGrade, Stacked, Taken
from sawtrunk.fitting import misfit
from sawtrunk.parting import breadth_of, crossed, ripped
from sawtrunk.sawing import block_cut, block_turned


def _bring_trunk(yard, deed):
    _, name, trunk = deed
    if name in yard.trunks:
        raise Taken(name)
    yard.trunks[name] = trunk
    yard.blocks[name] = whole_block(trunk[0])
    yard.waste[name] = (0, 0)


def _turn(yard, deed):
    _, name = deed
    yard.trunk(name)
    yard.blocks[name] = block_turned(yard.blocks[name])


def _cut(yard, deed):
    _, home, thick, name = deed
    trunk = yard.trunk(home)
    _hold_free(yard, name)
    _, board, slab, dust, rest = block_cut(trunk, yard.measures, yard.blocks[home], thick)
    yard.blocks[home] = rest
    yard.add_waste(home, slab, dust)
    if board is not None:
        yard.add_board(name, home, board)


def _rip(yard, deed):
    board, flaws = _to_part(yard, deed)
    _keep_parts(yard, deed, ripped(board, deed[2], flaws, yard.measures))


def _cross(yard, deed):
    board, flaws = _to_part(yard, deed)
    _keep_parts(yard, deed, crossed(board, deed[2], flaws, yard.measures))


def _to_part(yard, deed):
    """The board that is to be parted, and its trunk's flaws."""
    _, name, _, other_name = deed
    home, board = yard.board(name)
    _hold_free(yard, other_name)
    _hold_off_stacks(yard, name)
    return (board, yard.trunk(home)[2])


def _keep_parts(yard, deed, parted):
    """Let the parts be there for the whole, with its nights."""
    _, name, _, other_name = deed
    one, other, slab, dust = parted
    home, _ = yard.there.pop(name)
    yard.add_waste(home, slab, dust)
    if one is not None:
        yard.add_board(name, home, one)
    if other is not None:
        yard.add_board(other_name, home, other)
        yard.racks.give_nights(other_name, yard.racks.nights(name))


def _stack(yard, deed):
    _, stack, name = deed
    _, board = yard.board(name)
    yard.racks.put(stack, name, breadth_of(board))


def _take_off(yard, deed):
    _, name = deed
    yard.board(name)
    yard.racks.off(name)


def _bring_order(yard, deed):
    _, name, day, grade, thick, breadth, long = deed
    if name in yard.asked:
        raise Taken(name)
    if grade not in [rule[0] for rule in yard.measures[5]]:
        raise NoGrade("no rule has the order's grade")
    yard.asked[name] = (day, (grade, thick, breadth, long))


def _fill(yard, deed):
    _, order_name, name = deed
    last, order = yard.order(order_name)
    home, board = yard.board(name)
    _hold_off_stacks(yard, name)
    word = misfit(board, order, yard.measures[5])
    if word is not None:
        raise Misfit(word)
    if not yard.is_dry(name, yard.day):
        raise Misfit("wet")
    if yard.day > last:
        raise Misfit("late")
    del yard.there[name]
    yard.filled[order_name] = (home, name, board)


def _hold_free(yard, name):
    """No board ever had this name."""
    if name in yard.named:
        raise Taken(name)


def _hold_off_stacks(yard, name):
    """The board lies on no stack."""
    stack = yard.racks.place(name)
    if stack is not None:
        raise Stacked(stack)


_ACTIONS = {
    "trunk": _bring_trunk, "turn": _turn, "cut": _cut, "rip": _rip, "cross": _cross,
    "stack": _stack, "off": _take_off, "order": _bring_order, "fill": _fill,
}


def do(yard, deed):
    """Do a deed in the yard; a refused one changes nothing there."""
    action = _ACTIONS[deed[0]]
    action(yard, deed)
