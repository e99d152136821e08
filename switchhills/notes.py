"""Notes: which of two neighbours was seen to do better, and what is known from that."""

from switchhills.boards import Board, check_board, check_setting
from switchhills.errors import (
    InvalidFact, InvalidFacts, InvalidIndex, InvalidText, NotARanking, NotNotes, OtherBoard,
)
from switchhills.rankings import Ranking, ranking_by

HEAD = "board "
SIGN = " < "


def check_notes(notes):
    """Refuses what are no notes."""
    if not isinstance(notes, Notes):
        raise NotNotes(notes)


def is_index(value, many):
    """Whether a value is the index of one of so many elements."""
    return isinstance(value, int) and not isinstance(value, bool) and 0 <= value < many


def is_fact(board, value):
    """Whether a value is a pair of neighbours of the board."""
    if not isinstance(value, tuple) or len(value) != 2:
        return False
    worse, better = value
    return worse in board and better in board and board.distance(worse, better) == 1


def add_fact(above, worse, better):
    """Adds a fact to what is known: for each setting those that are known to be better."""
    more = dict(above[better])
    more[better] = True
    for setting in list(above):
        if setting == worse or worse in above[setting]:
            above[setting].update(more)


class Notes:
    """Notes of a board, which never change."""

    def __init__(self, board, facts=()):
        check_board(board)
        if not isinstance(facts, tuple):
            raise InvalidFacts(None)
        above = {setting: {} for setting in board.settings}
        for index, fact in enumerate(facts):
            if not is_fact(board, fact) or fact in facts[:index]:
                raise InvalidFacts(index)
            worse, better = fact
            if worse in above[better]:
                raise InvalidFacts(index)
            add_fact(above, worse, better)
        self._board = board
        self._facts = facts
        self._above = above

    @classmethod
    def read(cls, text):
        """The notes with this text."""
        if not isinstance(text, str) or not text.startswith(HEAD):
            raise InvalidText(text)
        first, *lines = text.split("\n")
        facts = tuple([tuple(line.split(SIGN)) for line in lines])
        try:
            return cls(Board.read(first.removeprefix(HEAD)), facts)
        except (InvalidText, InvalidFacts):
            raise InvalidText(text) from None

    @property
    def board(self):
        """The board, as it was passed."""
        return self._board

    @property
    def facts(self):
        """The facts, as they were passed."""
        return self._facts

    def __len__(self):
        return len(self._facts)

    def __bool__(self):
        # Without this, notes of no facts would be false.
        return True

    def __str__(self):
        lines = [f"{worse}{SIGN}{better}" for worse, better in self._facts]
        return "\n".join([f"{HEAD}{self._board}", *lines])

    def __eq__(self, other):
        return isinstance(other, Notes) and self._board == other._board and self._facts == other._facts

    def told(self, worse, better):
        """The notes with this fact more, the last one."""
        check_setting(self._board, worse)
        check_setting(self._board, better)
        fact = (worse, better)
        try:
            return Notes(self._board, self._facts + (fact,))
        except InvalidFacts:
            raise InvalidFact(fact) from None

    def without(self, index):
        """The notes without the fact with this index."""
        if not is_index(index, len(self._facts)):
            raise InvalidIndex(index)
        return Notes(self._board, self._facts[:index] + self._facts[index + 1:])

    def united(self, notes):
        """The notes with the facts of both, those that only the other ones have behind."""
        check_notes(notes)
        if notes.board != self._board:
            raise OtherBoard(notes)
        new = [index for index, fact in enumerate(notes.facts) if fact not in self._facts]
        facts = self._facts + tuple([notes.facts[index] for index in new])
        try:
            return Notes(self._board, facts)
        except InvalidFacts as error:
            # The facts of these notes are right, so the wrong one is one of the new ones.
            raise InvalidFacts(new[error.index - len(self._facts)]) from None

    def known(self, start, goal):
        """What the start is known to be, compared with the goal: worse, better, same or open."""
        check_setting(self._board, start)
        check_setting(self._board, goal)
        if start == goal:
            return "same"
        if goal in self._above[start]:
            return "worse"
        if start in self._above[goal]:
            return "better"
        return "open"

    def fits(self, ranking):
        """Whether a ranking fits."""
        if not isinstance(ranking, Ranking):
            raise NotARanking(ranking)
        if ranking.board != self._board:
            raise OtherBoard(ranking)
        return all([ranking.better(worse, better) for worse, better in self._facts])

    def ranking(self):
        """Any ranking that fits."""
        return ranking_by(self._board, self._facts, {})

    def pairs(self):
        """The ascending tuple of the pairs of neighbours of which neither is known to be worse."""
        return tuple([
            (low, high) for low in self._board.settings for high in self._board.beside(low)
            if low < high and self.known(low, high) == "open"
        ])
