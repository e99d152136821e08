"""Rankings: all settings of a board, from the worst one to the best one."""

from switchhills.boards import check_board, check_setting, settings_of
from switchhills.errors import InvalidOrder, InvalidSquare


def first_wrong_place(board, order):
    """The index at which an order is wrong; None if it has each setting of the board once."""
    seen = set()
    for index, setting in enumerate(order):
        if setting not in board or setting in seen:
            return index
        seen.add(setting)
    if len(order) < len(board):
        return len(order)
    return None


def neighbours_in(board, part):
    """For each setting of a part, ascending, its neighbours in the part."""
    inside = {setting: True for setting in board.inside(part)}
    return {
        setting: [near for near in board.beside(setting) if near in inside] for setting in inside
    }


def part_around(settings):
    """The least part that has these settings."""
    return tuple(["".join(sorted(set(column))) for column in zip(*settings)])


def is_square(board, value):
    """Whether a value is a square of the board."""
    if not isinstance(value, tuple) or len(value) != 4:
        return False
    if not all([corner in board for corner in value]):
        return False
    # No switch has four stands, so only two stands each of two switches make four settings.
    return settings_of(part_around(value)) == value


def check_square(board, square):
    """Refuses what is no square of the board."""
    if not is_square(board, square):
        raise InvalidSquare(square)


def kind_of(places):
    """The kind of a square whose four corners have these places in a ranking."""
    # Ascending corners differ like 00, 01, 10 and 11 in the two switches of the square.
    a, b, c, d = places
    first_alike = (a < c) == (b < d)
    second_alike = (a < b) == (c < d)
    if first_alike and second_alike:
        return "plain"
    if first_alike or second_alike:
        return "turned"
    # Both differ only where a and d are both better than b and c, or both worse.
    return "crossed"


def may_stand(standing, betters, rivals):
    """Whether all betters stand already, and one of the rivals, if they are not None."""
    if not all([better in standing for better in betters]):
        return False
    return rivals is None or any([rival in standing for rival in rivals])


def order_by(settings, facts, rivals):
    """The order of any such ranking as `ranking_by` tells; None if there is none."""
    betters = {setting: [] for setting in settings}
    for worse, better in facts:
        betters[worse].append(better)
    # Settings are put down from the best one on. What may stand now may stand later, too, so
    # it does no harm to put it down at once.
    standing = {}
    left = list(settings)
    while left:
        waiting = []
        for setting in left:
            if may_stand(standing, betters[setting], rivals.get(setting)):
                standing[setting] = True
            else:
                waiting.append(setting)
        if len(waiting) == len(left):
            return None
        left = waiting
    return tuple(reversed(list(standing)))


def ranking_by(board, facts, rivals):
    """Any ranking by which all these facts hold, and by which each setting that has rivals is
    worse than one of them; None if there is none."""
    order = order_by(board.settings, facts, rivals)
    if order is None:
        return None
    return Ranking(board, order)


class Ranking:
    """A ranking of a board, which never changes."""

    def __init__(self, board, order):
        check_board(board)
        if not isinstance(order, tuple):
            raise InvalidOrder(None)
        index = first_wrong_place(board, order)
        if index is not None:
            raise InvalidOrder(index)
        self._board = board
        self._order = order
        self._places = {setting: place for place, setting in enumerate(order)}

    @property
    def board(self):
        """The board, as it was passed."""
        return self._board

    @property
    def order(self):
        """All settings from the worst one to the best one, as they were passed."""
        return self._order

    def __eq__(self, other):
        return isinstance(other, Ranking) and self._board == other._board and self._order == other._order

    def better(self, start, goal):
        """Whether the goal is better than the start."""
        check_setting(self._board, start)
        check_setting(self._board, goal)
        return self._places[start] < self._places[goal]

    def peaks(self, part=None):
        """The ascending tuple of the peaks of a part; None stands for the whole."""
        beside = neighbours_in(self._board, part)
        places = self._places
        return tuple([
            setting for setting in beside
            if all([places[near] < places[setting] for near in beside[setting]])
        ])

    def helping(self, setting):
        """For each switch the number of its other stands with which the setting would be better."""
        check_setting(self._board, setting)
        better = self._better_beside(setting)
        return tuple([
            len([near for near in better if near[switch] != stand])
            for switch, stand in enumerate(setting)
        ])

    def climb(self, start):
        """The rising row from the start that goes to the best neighbour each time, to a peak."""
        check_setting(self._board, start)
        row = [start]
        better = self._better_beside(start)
        while better:
            best = self._order[max([self._places[near] for near in better])]
            row.append(best)
            better = self._better_beside(best)
        return tuple(row)

    def kind(self, square):
        """The kind of a square: crossed, plain or turned."""
        check_square(self._board, square)
        return self._kind(square)

    def crossed(self):
        """The ascending tuple of the crossed squares."""
        return tuple([
            square for square in self._board.squares() if self._kind(square) == "crossed"
        ])

    def smooth(self):
        """Whether no square is crossed."""
        return len(self.crossed()) == 0

    def rising(self, start, goal):
        """How many rising rows begin with the start and end with the goal."""
        check_setting(self._board, start)
        check_setting(self._board, goal)
        rows = {start: 1}
        for setting in self._up_to(start, goal):
            rows[setting] = sum([rows[near] for near in self._board.beside(setting) if near in rows])
        return rows.get(goal, 0)

    def short_way(self, start, goal):
        """Any rising row from the start to the goal with as few settings as can be, or None."""
        check_setting(self._board, start)
        check_setting(self._board, goal)
        ways = {start: (start,)}
        for setting in self._up_to(start, goal):
            found = [ways[near] for near in self._board.beside(setting) if near in ways]
            if found:
                ways[setting] = min(found, key=len) + (setting,)
        return ways.get(goal)

    def _better_beside(self, setting):
        """The neighbours that are better than a setting."""
        place = self._places[setting]
        return [near for near in self._board.beside(setting) if self._places[near] > place]

    def _kind(self, square):
        """The kind of what surely is a square."""
        return kind_of([self._places[corner] for corner in square])

    def _up_to(self, start, goal):
        """The settings behind the start in the order, up to the goal; none if it is not behind."""
        return self._order[self._places[start] + 1:self._places[goal] + 1]
