"""What is in a mill at a day."""

from sawtrunk.errors import NoBoard, NoOrder, NoTrunk
from sawtrunk.fitting import fits
from sawtrunk.pairing import paper_of
from sawtrunk.parting import cells_of, thick_of
from sawtrunk.shapes import wood_in
from sawtrunk.stacks import Stacks


class Yard:
    """Trunks, boards, stacks and orders behind some entries of a mill, and the day they are looked at."""

    def __init__(self, measures):
        self.measures = measures
        self.day = 1
        # Trunks by names; the blocks left of them, or None; and their waste, (slab, dust).
        self.trunks = {}
        self.blocks = {}
        self.waste = {}
        # Boards that are there, (trunk's name, board) by names, and all names that boards ever had.
        self.there = {}
        self.named = {}
        # All orders that came, (day, order) by names, and of the filled ones (trunk's name, board's name, board).
        self.asked = {}
        self.filled = {}
        self.racks = Stacks()

    def twin(self):
        """A yard like this one, that goes on by itself."""
        other = Yard(self.measures)
        other.day = self.day
        other.trunks = dict(self.trunks)
        other.blocks = dict(self.blocks)
        other.waste = dict(self.waste)
        other.there = dict(self.there)
        other.named = dict(self.named)
        other.asked = dict(self.asked)
        other.filled = dict(self.filled)
        other.racks = self.racks.twin()
        return other

    def pass_to(self, day):
        """Let the nights up to a day pass."""
        self.racks.pass_nights(day - self.day)
        self.day = day

    def trunk(self, name):
        """The trunk that came by this name."""
        if name not in self.trunks:
            raise NoTrunk(name)
        return self.trunks[name]

    def board(self, name):
        """The board that is there by this name, behind its trunk's name."""
        if name not in self.there:
            raise NoBoard(name)
        return self.there[name]

    def order(self, name):
        """The open order of this name, behind its day."""
        if name not in self.asked or name in self.filled:
            raise NoOrder(name)
        return self.asked[name]

    def add_board(self, name, home, board):
        """Let a board of the trunk at home be there."""
        self.there[name] = (home, board)
        self.named[name] = True

    def add_waste(self, home, slab, dust):
        """Let so many more cells of the trunk at home be slab and dust."""
        old_slab, old_dust = self.waste[home]
        self.waste[home] = (old_slab + slab, old_dust + dust)

    def is_dry(self, name, day):
        """Whether a board is dry at a day to come, where it stays as it lies."""
        nights = self.racks.nights(name)
        if self.racks.place(name) is not None:
            nights += day - self.day
        _, _, _, _, slow, _ = self.measures
        return nights >= slow * thick_of(self.there[name][1])

    def boards(self):
        """(trunk's name, board, nights, stack's name or None) of the boards that are there, by names."""
        return {
            name: (home, board, self.racks.nights(name), self.racks.place(name))
            for name, (home, board) in self.there.items()
        }

    def given(self):
        """(board's name, board) of the boards that are given out, by orders' names."""
        return {order: (name, board) for order, (_, name, board) in self.filled.items()}

    def orders(self):
        """(day, order) of the open orders, by names."""
        return {name: self.asked[name] for name in self.asked if name not in self.filled}

    def wood(self, name):
        """How many cells of a trunk are boards, slab, dust and block."""
        shape, long, _ = self.trunk(name)
        boards = [board for home, board in self.there.values() if home == name]
        boards.extend([board for home, _, board in self.filled.values() if home == name])
        slab, dust = self.waste[name]
        block = self.blocks[name]
        left = 0 if block is None else wood_in(shape, block[0]) * long
        return (sum([cells_of(body) for body, _, _ in boards]), slab, dust, left)

    def could(self):
        """The paper of the most open orders, whose day isn't past, that boards can fill, dry by that day."""
        orders = self.orders()
        return paper_of({
            name: [board for board in sorted(self.there) if self._could_fill(board, orders[name])]
            for name in sorted(orders) if orders[name][0] >= self.day
        })

    def _could_fill(self, name, dated):
        """Whether a board fits an order, behind its day, and is dry by then."""
        day, order = dated
        rules = self.measures[5]
        return fits(self.there[name][1], order, rules) and self.is_dry(name, day)
