"""Certificates: answers as claims, each with what shows the checker that it is true."""

from switchhills.errors import SameSetting
from switchhills.peaks import ranking_with, two_peaks
from switchhills.rankings import ranking_by
from switchhills.squares import crossing, may_cross
from switchhills.ways import sure_way


def certify_one(notes):
    """The claim "one" or "two", with its certificate."""
    ranking = two_peaks(notes)
    if ranking is None:
        return ("one", str(notes)), ()
    return ("two", str(notes)), ranking.order


def certify_smooth(notes):
    """The claim "smooth" or "rough", with its certificate."""
    squares = may_cross(notes)
    if len(squares) == 0:
        return ("smooth", str(notes)), ()
    return ("rough", str(notes)), (squares[0], crossing(notes, squares[0]).order)


def certify_way(notes, start, goal):
    """The claim "rises" or "falls" of the start and the goal, with its certificate."""
    row = sure_way(notes, start, goal)
    if start == goal:
        raise SameSetting(goal)
    if row is not None:
        return ("rises", str(notes), start, goal), row
    # No rising row leads to what is worse than the start.
    ranking = ranking_by(notes.board, list(notes.facts) + [(goal, start)], {})
    return ("falls", str(notes), start, goal), ranking.order


def certify_peaks(notes, peaks):
    """The claim "peaks" or "never" of these settings, with its certificate."""
    ranking = ranking_with(notes, peaks)
    if ranking is None:
        return ("never", str(notes), peaks), ()
    return ("peaks", str(notes), peaks), ranking.order
