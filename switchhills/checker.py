"""The checker: whether a certificate shows that a claim is true, whoever wrote them."""

from switchhills.boards import are_different
from switchhills.errors import InvalidOrder, InvalidPeaks, InvalidText
from switchhills.notes import Notes
from switchhills.peaks import check_peaks, one_peak, ranking_with
from switchhills.rankings import Ranking, is_square
from switchhills.squares import is_smooth
from switchhills.ways import steps_of


def is_empty(value):
    """Whether a value is the empty tuple."""
    return isinstance(value, tuple) and len(value) == 0


def ranking_of(notes, value):
    """The ranking of which a value is the order, if it is one and fits; None otherwise."""
    try:
        ranking = Ranking(notes.board, value)
    except InvalidOrder:
        return None
    if not notes.fits(ranking):
        return None
    return ranking


def are_peaks(board, value):
    """Whether a value is an ascending tuple of one or more settings of the board."""
    try:
        check_peaks(board, value)
    except InvalidPeaks:
        return False
    return True


def shows_one(notes, rest, certificate):
    """Whether the whole has one peak by each ranking that fits."""
    return len(rest) == 0 and is_empty(certificate) and one_peak(notes)


def shows_two(notes, rest, certificate):
    """Whether the whole has more peaks by this ranking, which fits."""
    ranking = ranking_of(notes, certificate)
    return len(rest) == 0 and ranking is not None and len(ranking.peaks()) > 1


def shows_smooth(notes, rest, certificate):
    """Whether the notes are smooth."""
    return len(rest) == 0 and is_empty(certificate) and is_smooth(notes)


def shows_rough(notes, rest, certificate):
    """Whether this square is crossed by this ranking, which fits."""
    if len(rest) != 0 or not isinstance(certificate, tuple) or len(certificate) != 2:
        return False
    square, order = certificate
    ranking = ranking_of(notes, order)
    return ranking is not None and is_square(notes.board, square) and ranking.kind(square) == "crossed"


def shows_rises(notes, rest, certificate):
    """Whether this row leads by facts from the one setting to the other one."""
    if not are_different(notes.board, rest) or not isinstance(certificate, tuple):
        return False
    if len(certificate) == 0 or not all([setting in notes.board for setting in certificate]):
        return False
    if [certificate[0], certificate[-1]] != rest:
        return False
    return all([step in notes.facts for step in steps_of(certificate)])


def shows_falls(notes, rest, certificate):
    """Whether no rising row leads from the one setting to the other by this ranking, which fits."""
    ranking = ranking_of(notes, certificate)
    if ranking is None or not are_different(notes.board, rest):
        return False
    start, goal = rest
    return ranking.short_way(start, goal) is None


def shows_peaks(notes, rest, certificate):
    """Whether these are all peaks of the whole by this ranking, which fits."""
    ranking = ranking_of(notes, certificate)
    if ranking is None or len(rest) != 1 or not are_peaks(notes.board, rest[0]):
        return False
    return ranking.peaks() == rest[0]


def shows_never(notes, rest, certificate):
    """Whether these are all peaks of the whole by no ranking that fits."""
    if not is_empty(certificate) or len(rest) != 1 or not are_peaks(notes.board, rest[0]):
        return False
    return ranking_with(notes, rest[0]) is None


CHECKS = {
    "one": shows_one, "two": shows_two, "smooth": shows_smooth, "rough": shows_rough,
    "rises": shows_rises, "falls": shows_falls, "peaks": shows_peaks, "never": shows_never,
}


def accepts(claim, certificate):
    """Whether a claim is one for the checker, and a certificate is one for it."""
    if not isinstance(claim, tuple) or len(claim) < 2 or not isinstance(claim[0], str):
        return False
    kind, text, *rest = claim
    if kind not in CHECKS:
        return False
    try:
        notes = Notes.read(text)
    except InvalidText:
        return False
    check = CHECKS[kind]
    return check(notes, rest, certificate)
