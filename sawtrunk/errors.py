"""The refusals: each stands straight under SawError.

No message is made of a field: a field may be a number too long to be written out.
"""


class SawError(ValueError):
    """What every refusal is."""


class TooThick(SawError):
    """A cut is thicker than the block is deep."""

    def __init__(self, deep):
        super().__init__("the cut is thicker than the block is deep")
        self.deep = deep


class NoBlock(SawError):
    """No block is left."""


class TooBroad(SawError):
    """A board is ripped at a breadth that is no less than its own."""

    def __init__(self, breadth):
        super().__init__("the breadth is no less than the board's")
        self.breadth = breadth


class TooLong(SawError):
    """A board is crossed at a long that is no less than its own."""

    def __init__(self, long):
        super().__init__("the long is no less than the board's")
        self.long = long


class Stacked(SawError):
    """A board lies on a stack."""

    def __init__(self, stack):
        super().__init__("the board lies on a stack")
        self.stack = stack


class Overhang(SawError):
    """The uppermost board of a stack is less broad than the one put on it."""

    def __init__(self, name):
        super().__init__("the uppermost board is less broad")
        self.name = name


class NotStacked(SawError):
    """A board lies on no stack."""


class Beneath(SawError):
    """Other boards lie on the one that is taken off."""

    def __init__(self, names):
        super().__init__("other boards lie on this one")
        # A copy, so that the list handed in stays apart from the one told.
        self.names = list(names)


class Taken(SawError):
    """A name is used already."""

    def __init__(self, name):
        super().__init__("the name is used already")
        self.name = name


class NoTrunk(SawError):
    """No trunk came by this name."""

    def __init__(self, name):
        super().__init__("no trunk came by this name")
        self.name = name


class NoBoard(SawError):
    """No board of this name is there."""

    def __init__(self, name):
        super().__init__("no board of this name is there")
        self.name = name


class NoOrder(SawError):
    """No order of this name is open."""

    def __init__(self, name):
        super().__init__("no order of this name is open")
        self.name = name


class NoGrade(SawError):
    """No rule has the grade."""


class Misfit(SawError):
    """A board does not fit the order."""

    def __init__(self, word):
        super().__init__("the board does not fit the order")
        self.word = word


class NoDeed(SawError):
    """What is told is no deed."""


class NoDay(SawError):
    """What is told is no day."""


class Hindered(SawError):
    """An entry behind the changed one would be refused."""

    def __init__(self, entry, refusal):
        super().__init__("a later entry would be refused")
        self.entry = entry
        self.refusal = refusal


class NoEntry(SawError):
    """No entry has this number."""


class NoLine(SawError):
    """A line is not as a mill is written."""

    def __init__(self, line):
        super().__init__("a line is not as a mill is written")
        self.line = line


class NoRow(SawError):
    """What is told is no row of the desk."""
