"""Walks: notes told back from walks that rose, and from settings where they came to rest."""

from switchhills.boards import check_board
from switchhills.errors import InvalidRests, InvalidWalks
from switchhills.notes import Notes, add_fact
from switchhills.ways import is_walk, steps_of


def facts_of_walk(board, walk):
    """The facts that come from a walk; None if it is none."""
    if not is_walk(board, walk):
        return None
    return steps_of(walk)


def facts_of_rest(board, rest):
    """The facts that come from a setting where a walk came to rest; None if it is none."""
    if rest not in board:
        return None
    return [(near, rest) for near in board.beside(rest)]


def may_add(above, facts):
    """Adds facts to what is known as long as they close no ring; whether none of them does."""
    for worse, better in facts:
        if worse in above[better]:
            return False
        add_fact(above, worse, better)
    return True


def first_wrong_row(above, rows):
    """Adds rows of facts to what is known; the index of the first one that is None or closes a
    ring, None if there is none."""
    for index, facts in enumerate(rows):
        if facts is None or not may_add(above, facts):
            return index
    return None


def from_walks(board, walks, rests):
    """The notes with the facts that were seen by walks and rests, ascending, each once."""
    check_board(board)
    if not isinstance(walks, tuple):
        raise InvalidWalks(None)
    above = {setting: {} for setting in board.settings}
    seen = [facts_of_walk(board, walk) for walk in walks]
    index = first_wrong_row(above, seen)
    if index is not None:
        raise InvalidWalks(index)
    if not isinstance(rests, tuple):
        raise InvalidRests(None)
    around = [facts_of_rest(board, rest) for rest in rests]
    index = first_wrong_row(above, around)
    if index is not None:
        raise InvalidRests(index)
    facts = {fact: True for row in seen + around for fact in row}
    return Notes(board, tuple(sorted(list(facts))))
