"""Asking: what a comparison would tell, and which one to make next."""

from switchhills.boards import check_setting
from switchhills.errors import InvalidFact
from switchhills.notes import check_notes
from switchhills.peaks import open_settings


def open_behind(found, worse):
    """How many settings are open when this one is told to be worse than another one."""
    # No other one stops being open: what is known to be worse than this one was not open before.
    return len([setting for setting in found if setting != worse])


def answers(notes, worse, better):
    """The numbers of settings that are open with this fact more, and with the opposite one."""
    check_notes(notes)
    check_setting(notes.board, worse)
    check_setting(notes.board, better)
    beside = notes.board.distance(worse, better) == 1
    if not beside or notes.known(worse, better) != "open":
        raise InvalidFact((worse, better))
    found = open_settings(notes)
    return open_behind(found, worse), open_behind(found, better)


def best_pairs(notes):
    """The ascending tuple of the pairs for which the greater one of the two numbers is least."""
    check_notes(notes)
    found = open_settings(notes)
    numbers = {
        (low, high): max(open_behind(found, low), open_behind(found, high))
        for low, high in notes.pairs()
    }
    least = min(list(numbers.values()), default=0)
    return tuple([pair for pair in numbers if numbers[pair] == least])
