"""Boards: one to five switches with two or three stands each, and all their settings."""

from switchhills.errors import InvalidPart, InvalidSizes, InvalidText, NotABoard, UnknownSetting
from switchhills.limits import MOST_SETTINGS, MOST_SWITCHES

STANDS = "012"
SIZES = {"2": 2, "3": 3}


def is_size(value):
    """Whether a value is a number of stands that a switch can have."""
    # True and False need no test of their own: they are equal to 1 and 0.
    return isinstance(value, int) and value in (2, 3)


def first_wrong_size(sizes):
    """The index of the first size that is wrong beside those ahead of it; None if all are right."""
    many = 1
    for index, size in enumerate(sizes):
        if index == MOST_SWITCHES or not is_size(size):
            return index
        many = many * size
        if many > MOST_SETTINGS:
            return index
    return None


def are_stands(value, stands):
    """Whether a value is one or more of the stands of a switch, ascending."""
    if not isinstance(value, str) or value == "":
        return False
    return value == "".join([stand for stand in stands if stand in value])


def is_part(value, whole):
    """Whether a value is a part of the board with this whole."""
    if not isinstance(value, tuple) or len(value) != len(whole):
        return False
    return all([are_stands(some, stands) for some, stands in zip(value, whole)])


def settings_of(part):
    """The ascending tuple of the settings whose stands are all in a part."""
    settings = [""]
    for stands in part:
        settings = [setting + stand for setting in settings for stand in stands]
    return tuple(settings)


def neighbours_of(setting, whole):
    """The ascending tuple of the settings that differ from this one in just one switch."""
    found = []
    for switch, stands in enumerate(whole):
        front = setting[:switch]
        back = setting[switch + 1:]
        found.extend([front + stand + back for stand in stands if stand != setting[switch]])
    return tuple(sorted(found))


def ones_and_twos(stands):
    """Each of the stands of a switch alone, and each two of them."""
    twos = [low + high for low in stands for high in stands if low < high]
    return [*stands, *twos]


def check_board(board):
    """Refuses what is no board."""
    if not isinstance(board, Board):
        raise NotABoard(board)


def check_setting(board, setting):
    """Refuses what is no setting of the board."""
    if setting not in board:
        raise UnknownSetting(setting)


def are_different(board, values):
    """Whether these values are two different settings of the board."""
    if len(values) != 2:
        return False
    one, other = values
    return one in board and other in board and one != other


class Board:
    """A board, which never changes."""

    def __init__(self, sizes):
        if not isinstance(sizes, tuple) or len(sizes) == 0:
            raise InvalidSizes(None)
        index = first_wrong_size(sizes)
        if index is not None:
            raise InvalidSizes(index)
        self._sizes = sizes
        self._whole = tuple([STANDS[:size] for size in sizes])
        self._settings = settings_of(self._whole)
        self._beside = {setting: neighbours_of(setting, self._whole) for setting in self._settings}

    @classmethod
    def read(cls, text):
        """The board with this text."""
        if not isinstance(text, str):
            raise InvalidText(text)
        # Any other character gives None, which is refused as a size like all wrong ones.
        sizes = tuple([SIZES.get(digit) for digit in text])
        try:
            return cls(sizes)
        except InvalidSizes:
            raise InvalidText(text) from None

    @property
    def sizes(self):
        """How many stands each switch has, as it was passed."""
        return self._sizes

    @property
    def settings(self):
        """The ascending tuple of all settings."""
        return self._settings

    @property
    def whole(self):
        """The part with all settings."""
        return self._whole

    def __len__(self):
        return len(self._settings)

    def __str__(self):
        return "".join([str(size) for size in self._sizes])

    def __contains__(self, x):
        # What is no string may not be fit for a key.
        return isinstance(x, str) and x in self._beside

    def __eq__(self, other):
        return isinstance(other, Board) and self._sizes == other._sizes

    def beside(self, setting):
        """The ascending tuple of the neighbours of a setting."""
        check_setting(self, setting)
        return self._beside[setting]

    def distance(self, start, goal):
        """The number of switches in which two settings differ."""
        check_setting(self, start)
        check_setting(self, goal)
        return len([stand for stand, other in zip(start, goal) if stand != other])

    def inside(self, part=None):
        """The ascending tuple of the settings of a part; None stands for the whole."""
        if part is None:
            return self._settings
        if not is_part(part, self._whole):
            raise InvalidPart(part)
        return settings_of(part)

    def squares(self):
        """The ascending tuple of all squares."""
        # A square is all of a part with two stands each of two switches, one of each other.
        parts = [()]
        for stands in self._whole:
            parts = [part + (some,) for part in parts for some in ones_and_twos(stands)]
        corners = [settings_of(part) for part in parts if len("".join(part)) == len(part) + 2]
        return tuple(sorted(corners))
