"""Stacks of boards that dry there, told of by names."""

from sawtrunk.errors import Beneath, NotStacked, Overhang, Stacked


class Stacks:
    """Boards by names, one on another, and the nights that each has lain on a stack."""

    def __init__(self):
        self._piles = {}
        self._places = {}
        self._breadths = {}
        self._nights = {}

    def put(self, stack, name, breadth):
        """Put a board on a stack."""
        if name in self._places:
            raise Stacked(self._places[name])
        pile = self._piles.get(stack, [])
        if pile and self._breadths[pile[-1]] < breadth:
            raise Overhang(pile[-1])
        self._piles[stack] = pile + [name]
        self._places[name] = stack
        self._breadths[name] = breadth

    def off(self, name):
        """Take a board off its stack."""
        if name not in self._places:
            raise NotStacked("the board lies on no stack")
        stack = self._places[name]
        pile = self._piles[stack]
        above = pile[pile.index(name) + 1:]
        if above:
            raise Beneath(above[::-1])
        del self._places[name]
        if len(pile) == 1:
            # A stack without boards is none.
            del self._piles[stack]
        else:
            self._piles[stack] = pile[:-1]

    def pass_nights(self, many):
        """Let so many nights pass for each board that lies on a stack."""
        for name in self._places:
            self._nights[name] = self.nights(name) + many

    def nights(self, name):
        """How many nights the board has lain on stacks."""
        return self._nights.get(name, 0)

    def place(self, name):
        """The stack that the board lies on; None where it lies on none."""
        return self._places.get(name)

    def piles(self):
        """The names on each stack, from beneath."""
        return {stack: list(self._piles[stack]) for stack in self._piles}

    def give_nights(self, name, many):
        """Let a board have so many nights, as a part has those of the whole."""
        self._nights[name] = many

    def twin(self):
        """Stacks like these, that go on by themselves."""
        other = Stacks()
        # No pile is ever changed, only exchanged: so both may hold the same ones.
        other._piles = dict(self._piles)
        other._places = dict(self._places)
        other._breadths = dict(self._breadths)
        other._nights = dict(self._nights)
        return other
