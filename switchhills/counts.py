"""Counts: how many landscapes notes have, and how many of them are smooth."""

from switchhills.errors import TooMany
from switchhills.limits import MOST_COUNTED
from switchhills.notes import check_notes
from switchhills.ways import bits_of


def better_than_each(notes, bits):
    """For each setting the set of those that are known to be better."""
    return {
        setting: sum([bits[other] for other in bits if notes.known(setting, other) == "worse"])
        for setting in bits
    }


def with_fact(over, bits, worse, better):
    """For each setting the set of those that are known to be better when this fact is told."""
    more = over[better] | bits[better]
    return {
        setting: over[setting] | more if setting == worse or over[setting] & bits[worse] != 0
        else over[setting] for setting in over
    }


def all_landscapes(notes, bits):
    """For each landscape of the notes, for each setting the set of those known to be better."""
    found = [better_than_each(notes, bits)]
    for low, high in notes.pairs():
        more = []
        for over in found:
            for worse, better in ((low, high), (high, low)):
                if over[better] & bits[worse] == 0:
                    more.append(with_fact(over, bits, worse, better))
        found = more
    return found


def is_crossed(over, bits, square):
    """Whether a square is crossed by a landscape."""
    a, b, c, d = square
    better = [over[one] & bits[other] != 0 for one in (a, d) for other in (b, c)]
    return all(better) or not any(better)


def check_many(notes):
    """Refuses what are no notes, or notes of a board of too many settings."""
    check_notes(notes)
    if len(notes.board) > MOST_COUNTED:
        raise TooMany(len(notes.board))


def landscapes(notes):
    """How many landscapes the notes have."""
    check_many(notes)
    return len(all_landscapes(notes, bits_of(notes.board.settings)))


def smooth_landscapes(notes):
    """How many landscapes of the notes are those of smooth rankings."""
    check_many(notes)
    bits = bits_of(notes.board.settings)
    squares = notes.board.squares()
    return len([
        over for over in all_landscapes(notes, bits)
        if not any([is_crossed(over, bits, square) for square in squares])
    ])
