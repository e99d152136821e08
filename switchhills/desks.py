"""Desks: notes that are led live, with promises that hold after each change."""

from switchhills.boards import are_different
from switchhills.errors import Broken, InvalidIndex, InvalidWish, NothingToUndo
from switchhills.limits import MOST_SETTINGS
from switchhills.notes import check_notes, is_index
from switchhills.peaks import one_peak, open_settings
from switchhills.squares import is_smooth


def is_wish(board, value):
    """Whether a value is a wish for notes of the board."""
    if not isinstance(value, tuple) or len(value) == 0 or not isinstance(value[0], str):
        return False
    kind, *rest = value
    if kind in ("one", "smooth"):
        return len(rest) == 0
    if kind == "open":
        return len(rest) == 1 and rest[0] in board
    if kind == "rises":
        return are_different(board, rest)
    if kind == "few":
        return len(rest) == 1 and is_index(rest[0], MOST_SETTINGS + 1)
    return False


def holds(notes, wish):
    """Whether a wish holds for the notes."""
    kind = wish[0]
    if kind == "one":
        return one_peak(notes)
    if kind == "smooth":
        return is_smooth(notes)
    if kind == "open":
        return wish[1] in open_settings(notes)
    if kind == "rises":
        return notes.known(wish[1], wish[2]) == "worse"
    return len(open_settings(notes)) <= wish[1]


def first_broken(notes, wishes):
    """The index of the first wish that does not hold for the notes; None if all hold."""
    for index, wish in enumerate(wishes):
        if not holds(notes, wish):
            return index
    return None


class State:
    """What a desk is like between two changes, with its state before the last one."""

    def __init__(self, seen, wishes, before):
        self.seen = seen
        self.wishes = wishes
        self.before = before
        self.many = 0 if before is None else before.many + 1


class Trial:
    """What a `with` statement keeps of a desk, to give it back behind an exception."""

    def __init__(self, desk):
        self._desk = desk
        self._state = None

    def __enter__(self):
        self._state = self._desk._state
        return self._desk

    def __exit__(self, kind, value, trace):
        desk = self._desk
        if kind is not None:
            desk._state = self._state


class Desk:
    """A desk, which changes by its methods and at the end of a trial."""

    def __init__(self, notes):
        check_notes(notes)
        self._state = State(notes, (), None)

    @property
    def notes(self):
        """The notes with all changes that were not taken back."""
        return self._state.seen

    @property
    def promises(self):
        """The tuple of the promises, in the order in which they were made."""
        return self._state.wishes

    @property
    def changes(self):
        """How many changes can be taken back."""
        return self._state.many

    def __eq__(self, other):
        # No two desks share a state, and no two states are equal: so a desk equals itself alone.
        return isinstance(other, Desk) and self._state == other._state

    def tell(self, worse, better):
        """A fact more."""
        self._change(self.notes.told(worse, better), self.promises)

    def forget(self, index):
        """Takes a fact out."""
        self._change(self.notes.without(index), self.promises)

    def promise(self, wish):
        """A promise more, behind the others."""
        if not is_wish(self.notes.board, wish):
            raise InvalidWish(wish)
        self._change(self.notes, self.promises + (wish,))

    def lift(self, index):
        """Takes a promise away."""
        promises = self.promises
        if not is_index(index, len(promises)):
            raise InvalidIndex(index)
        self._change(self.notes, promises[:index] + promises[index + 1:])

    def undo(self):
        """Takes back the last change that has not been taken back."""
        if self._state.before is None:
            raise NothingToUndo()
        self._state = self._state.before

    def trial(self):
        """For a `with` statement: behind an exception the desk is as it was ahead of its rows."""
        return Trial(self)

    def tried(self, action):
        """Calls a function with the desk within a trial, and returns what it returns."""
        with self.trial() as desk:
            return action(desk)

    def _change(self, notes, promises):
        """Makes a change, if all promises hold then."""
        index = first_broken(notes, promises)
        if index is not None:
            raise Broken(index)
        self._state = State(notes, promises, self._state)
