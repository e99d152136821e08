"""Squares by notes: which kinds they can have, and whether the notes are smooth."""

from itertools import permutations

from switchhills.notes import check_notes
from switchhills.rankings import check_square, kind_of, part_around, ranking_by


def crossing_facts(notes, square):
    """Pairs that make a square crossed and that may be facts, too; None if there are none."""
    a, b, c, d = square
    for better, worse in [((a, d), (b, c)), ((b, c), (a, d))]:
        more = [(under, over) for under in worse for over in better]
        if not any([notes.known(over, under) == "worse" for under, over in more]):
            return more
    return None


def kinds(notes, square):
    """The ascending tuple of the kinds that a square has by rankings that fit."""
    check_notes(notes)
    check_square(notes.board, square)
    known = [
        (one, other) for one in range(4) for other in range(4)
        if notes.known(square[one], square[other]) == "worse"
    ]
    # Each order of the corners that keeps to what is known is that of a ranking that fits.
    return tuple(sorted({
        kind_of(places) for places in permutations(range(4))
        if all([places[worse] < places[better] for worse, better in known])
    }))


def crossing(notes, square):
    """Any ranking that fits by which a square is crossed; None if there is none."""
    check_notes(notes)
    check_square(notes.board, square)
    more = crossing_facts(notes, square)
    if more is None:
        return None
    return ranking_by(notes.board, list(notes.facts) + more, {})


def may_cross(notes):
    """The ascending tuple of the squares that can be crossed."""
    check_notes(notes)
    return tuple([
        square for square in notes.board.squares() if crossing_facts(notes, square) is not None
    ])


def is_smooth(notes):
    """Whether no ranking that fits makes a square crossed."""
    return len(may_cross(notes)) == 0


def rough_part(notes):
    """None if the notes are smooth, else any part with a ranking by which it has two peaks."""
    found = may_cross(notes)
    if len(found) == 0:
        return None
    square = found[0]
    return part_around(square), crossing(notes, square)
