"""Peaks by notes: which settings can be peaks, which surely are, which can be all of them."""

from switchhills.errors import InvalidPeaks, TooMany
from switchhills.limits import MOST_SEARCHED
from switchhills.notes import check_notes
from switchhills.rankings import neighbours_in, ranking_by


def first_wrong_peak(board, peaks):
    """The index of the first element that is no setting or not greater than the one ahead."""
    for index, setting in enumerate(peaks):
        if setting not in board:
            return index
        if index > 0 and setting <= peaks[index - 1]:
            return index
    return None


def check_peaks(board, peaks):
    """Refuses what is no ascending tuple of one or more settings of the board."""
    if not isinstance(peaks, tuple) or len(peaks) == 0:
        raise InvalidPeaks(None)
    index = first_wrong_peak(board, peaks)
    if index is not None:
        raise InvalidPeaks(index)


def peak_facts(beside, peaks):
    """The pairs that make these settings peaks: each of their neighbours, and they."""
    return [(near, peak) for peak in peaks for near in beside[peak]]


def with_peaks(notes, beside, peaks):
    """Any ranking that fits by which these settings, and perhaps others, are peaks; or None."""
    return ranking_by(notes.board, list(notes.facts) + peak_facts(beside, peaks), {})


def with_all_peaks(notes, beside, peaks):
    """Any ranking that fits by which just these settings are peaks; or None."""
    # Each setting that is no peak needs a neighbour that is better.
    rivals = {setting: beside[setting] for setting in beside if setting not in peaks}
    return ranking_by(notes.board, list(notes.facts) + peak_facts(beside, peaks), rivals)


def pairs_apart(settings, beside):
    """All pairs of these settings, in their order, that are no neighbours."""
    return [
        (one, other) for index, one in enumerate(settings) for other in settings[index + 1:]
        if other not in beside[one]
    ]


def rows_apart(settings, beside):
    """All rows of these settings, in their order, in which no two are neighbours."""
    rows = [()]
    for setting in settings:
        near = beside[setting]
        more = [(*row, setting) for row in rows if not any([other in near for other in row])]
        rows = [*rows, *more]
    return rows


def open_settings(notes, part=None):
    """The ascending tuple of the settings that are open in a part."""
    check_notes(notes)
    beside = neighbours_in(notes.board, part)
    return tuple([
        setting for setting in beside
        if all([notes.known(setting, near) != "worse" for near in beside[setting]])
    ])


def sure_peaks(notes, part=None):
    """The ascending tuple of the sure peaks of a part."""
    check_notes(notes)
    beside = neighbours_in(notes.board, part)
    return tuple([
        setting for setting in beside
        if all([notes.known(near, setting) == "worse" for near in beside[setting]])
    ])


def one_peak(notes, part=None):
    """Whether the part has one peak by each ranking that fits."""
    return two_peaks(notes, part) is None


def two_peaks(notes, part=None):
    """None if the part has one peak by each ranking that fits, else any by which it has more."""
    found = open_settings(notes, part)
    beside = neighbours_in(notes.board, part)
    for pair in pairs_apart(found, beside):
        ranking = with_peaks(notes, beside, pair)
        if ranking is not None:
            return ranking
    return None


def ranking_with(notes, peaks, part=None):
    """Any ranking that fits by which the peaks of the part are just these; None if there is none."""
    check_notes(notes)
    check_peaks(notes.board, peaks)
    beside = neighbours_in(notes.board, part)
    if not all([peak in beside for peak in peaks]):
        return None
    return with_all_peaks(notes, beside, peaks)


def peak_numbers(notes):
    """The ascending tuple of the numbers of peaks that the whole has by rankings that fit."""
    check_notes(notes)
    if len(notes.board) > MOST_SEARCHED:
        raise TooMany(len(notes.board))
    beside = neighbours_in(notes.board, None)
    numbers = set()
    for row in rows_apart(open_settings(notes), beside):
        if len(row) not in numbers and with_all_peaks(notes, beside, row) is not None:
            numbers.add(len(row))
    return tuple(sorted(numbers))
