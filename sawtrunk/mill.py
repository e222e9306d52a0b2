"""A mill: deeds entered by days, late ones too, and taken out again."""

from sawtrunk.deeds import is_deed
from sawtrunk.doing import do
from sawtrunk.errors import Hindered, NoDay, NoDeed, NoEntry, SawError
from sawtrunk.things import is_day, is_whole
from sawtrunk.yard import Yard


class Mill:
    """The entries (day, deed) of a mill, and what they make of it at each day."""

    def __init__(self, measures):
        self.measures = measures
        self._entries = []
        # A yard behind none of the entries, one behind the first, and so on: none is changed later on.
        self._yards = [Yard(measures)]

    def enter(self, day, deed):
        """Enter a deed behind all entries of its day and of earlier days."""
        if not is_day(day):
            raise NoDay("what is told is no day")
        if not is_deed(deed):
            raise NoDeed("what is told is no deed")
        many = self._many_to(day)
        yard = _behind(self._yards[many], day, deed)
        ahead = self._entries[:many] + [(day, deed)]
        self._go_on(ahead, self._yards[:many + 1] + [yard], self._entries[many:])

    def out(self, entry):
        """Take out the entry of this number."""
        if not is_whole(entry) or not 0 <= entry < len(self._entries):
            raise NoEntry("no entry has this number")
        self._go_on(self._entries[:entry], self._yards[:entry + 1], self._entries[entry + 1:])

    def _go_on(self, entries, yards, later):
        """Have these entries, with their yards, and all later ones, done anew."""
        for day, deed in later:
            try:
                yard = _behind(yards[-1], day, deed)
            except SawError as refusal:
                raise Hindered(len(entries), refusal)
            entries.append((day, deed))
            yards.append(yard)
        self._entries = entries
        self._yards = yards

    def _many_to(self, day):
        """How many entries are of this day and of earlier days."""
        return len([other for other, _ in self._entries if other <= day])

    def _at(self, day):
        """The yard at a day."""
        return _passed(self._yards[self._many_to(day)], day)

    def entries(self):
        """All entries (day, deed), by days."""
        return list(self._entries)

    def boards(self, day):
        """The boards that are there: names to (trunk's name, board, nights, stack's name or None)."""
        return self._at(day).boards()

    def given(self, day):
        """The boards given out: orders' names to (board's name, board)."""
        return self._at(day).given()

    def stacks(self, day):
        """The stacks: names to lists of boards' names, from beneath."""
        return self._at(day).racks.piles()

    def orders(self, day):
        """The open orders: names to (day, order)."""
        return self._at(day).orders()

    def block(self, day, name):
        """The block that is left of a trunk, or None."""
        yard = self._at(day)
        yard.trunk(name)
        return yard.blocks[name]

    def wood(self, day, name):
        """How many cells of a trunk are boards, slab, dust and block."""
        return self._at(day).wood(name)

    def could(self, day):
        """The paper of the most open orders that could be filled by their days."""
        return self._at(day).could()


def _passed(yard, day):
    """A yard as it is at a later day, if nothing is done up to then."""
    other = yard.twin()
    other.pass_to(day)
    return other


def _behind(yard, day, deed):
    """The yard behind a deed at a later day."""
    other = _passed(yard, day)
    do(other, deed)
    return other
