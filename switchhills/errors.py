"""The errors of the package: three base classes, and one class for each kind of failure.

Each class sets its attribute itself: its base class is made of nothing, and a class
between the two would put it under a further class of this package.
"""


class WrongValue(ValueError):
    """A value is not of the form that is asked for."""


class InvalidText(WrongValue):
    """What should be the text of a board or of notes is none."""

    def __init__(self, given):
        self.given = given


class InvalidPart(WrongValue):
    """What should be a part of the board is none."""

    def __init__(self, given):
        self.given = given


class InvalidSquare(WrongValue):
    """What should be a square of the board is none."""

    def __init__(self, given):
        self.given = given


class InvalidFact(WrongValue):
    """A pair of settings cannot be told as a fact."""

    def __init__(self, given):
        self.given = given


class InvalidIndex(WrongValue):
    """What should be the index of a fact or of a promise is none."""

    def __init__(self, given):
        self.given = given


class InvalidWish(WrongValue):
    """What should be a wish is none."""

    def __init__(self, given):
        self.given = given


class InvalidCommand(WrongValue):
    """What should be a command of the console is none."""

    def __init__(self, given):
        self.given = given


class NotABoard(WrongValue):
    """What should be a board is none."""

    def __init__(self, given):
        self.given = given


class NotNotes(WrongValue):
    """What should be notes are none."""

    def __init__(self, given):
        self.given = given


class NotARanking(WrongValue):
    """What should be a ranking is none."""

    def __init__(self, given):
        self.given = given


class OtherBoard(WrongValue):
    """Notes or a ranking are of another board."""

    def __init__(self, given):
        self.given = given


class SameSetting(WrongValue):
    """The goal is the start."""

    def __init__(self, given):
        self.given = given


class InvalidSizes(WrongValue):
    """The sizes of a board are wrong from this index on."""

    def __init__(self, index):
        self.index = index


class InvalidFacts(WrongValue):
    """The facts of notes are wrong from this index on."""

    def __init__(self, index):
        self.index = index


class InvalidOrder(WrongValue):
    """The order of a ranking is wrong from this index on."""

    def __init__(self, index):
        self.index = index


class InvalidPeaks(WrongValue):
    """The settings asked for as peaks are wrong from this index on."""

    def __init__(self, index):
        self.index = index


class InvalidWalks(WrongValue):
    """The walks are wrong from this index on."""

    def __init__(self, index):
        self.index = index


class InvalidRests(WrongValue):
    """The rests are wrong from this index on."""

    def __init__(self, index):
        self.index = index


class WrongName(LookupError):
    """A name is not known."""


class UnknownSetting(WrongName):
    """What should be a setting of the board is none."""

    def __init__(self, given):
        self.given = given


class NotPossible(ArithmeticError):
    """What is asked for cannot be done."""


class NothingToUndo(NotPossible):
    """No change is left that could be taken back."""


class TooMany(NotPossible):
    """The board has more settings than can be searched or counted."""

    def __init__(self, given):
        self.given = given


class Broken(NotPossible):
    """The promise with this index would not hold."""

    def __init__(self, index):
        self.index = index
