"""Ways by notes: which rows of settings surely rise, which rise perhaps, and where they can end."""

from switchhills.boards import check_setting
from switchhills.notes import check_notes
from switchhills.peaks import open_settings
from switchhills.rankings import ranking_by


def bits_of(settings):
    """A bit for each setting, so that a set of settings is a sum of bits."""
    return {setting: 1 << place for place, setting in enumerate(settings)}


def worse_than_each(notes):
    """For each setting the set of those that are known to be worse."""
    bits = bits_of(notes.board.settings)
    return {
        setting: sum([bits[other] for other in bits if notes.known(other, setting) == "worse"])
        for setting in bits
    }


def steps_of(row):
    """The pairs of each setting of a row and the next one."""
    return list(zip(row, row[1:]))


def is_walk(board, value):
    """Whether a value is a tuple of one or more settings, each a neighbour of the one ahead."""
    if not isinstance(value, tuple) or len(value) == 0:
        return False
    if not all([setting in board for setting in value]):
        return False
    return all([board.distance(one, other) == 1 for one, other in steps_of(value)])


def has_less(sets, other):
    """Whether one of these sets is the other one or a part of it."""
    return any([one & ~other == 0 for one in sets])


def first_row(board, worse, start, goals):
    """Any row from the start to one of these goals that rises by some ranking that fits, with as
    few settings as can be; None if there is none. For each setting `worse` has the set of those
    that are known to be worse."""
    bits = bits_of(board.settings)
    wanted = sum([bits[goal] for goal in goals])
    # Beside each row stands the set of what it bars: all that is known to be worse than one of
    # its settings. A row need not go on if it bars all goals, or all that an earlier row to the
    # same setting bars; so no row has a setting twice either.
    barred = {setting: [] for setting in bits}
    barred[start].append(worse[start])
    rows = [((start,), worse[start])]
    while rows:
        longer = []
        for row, bar in rows:
            if row[-1] in goals:
                return row
            for near in board.beside(row[-1]):
                more = bar | worse[near]
                if bar & bits[near] != 0 or wanted & ~more == 0:
                    continue
                if not has_less(barred[near], more):
                    barred[near].append(more)
                    longer.append((row + (near,), more))
        rows = longer
    return None


def sure_way(notes, start, goal):
    """Any row of facts from the start to the goal with as few settings as can be, or None."""
    check_notes(notes)
    check_setting(notes.board, start)
    check_setting(notes.board, goal)
    rows = {start: (start,)}
    last = [start]
    while last and goal not in rows:
        found = []
        for worse, better in notes.facts:
            if worse in last and better not in rows:
                rows[better] = rows[worse] + (better,)
                found.append(better)
        last = found
    return rows.get(goal)


def may_way(notes, start, goal):
    """Any row from the start to the goal that rises by some ranking that fits, with as few
    settings as can be; None if there is none."""
    check_notes(notes)
    check_setting(notes.board, start)
    check_setting(notes.board, goal)
    return first_row(notes.board, worse_than_each(notes), start, (goal,))


def way_ranking(notes, row):
    """Any ranking that fits by which a value is a rising row; None if there is none."""
    check_notes(notes)
    if not is_walk(notes.board, row) or len(row) == 1:
        return None
    # A row with a setting twice makes a ring of its steps, so that there is no ranking.
    return ranking_by(notes.board, list(notes.facts) + steps_of(row), {})


def ends(notes, start):
    """The ascending tuple of all ends for a start."""
    check_notes(notes)
    check_setting(notes.board, start)
    worse = worse_than_each(notes)
    # Whatever is open can be a peak also by a ranking by which a row rises to it.
    return tuple([
        setting for setting in open_settings(notes)
        if first_row(notes.board, worse, start, (setting,)) is not None
    ])


def starts(notes, goal):
    """The ascending tuple of all settings for which the goal is the only end."""
    check_notes(notes)
    check_setting(notes.board, goal)
    worse = worse_than_each(notes)
    # Each setting has an end, so it is the goal where it can be no other one.
    others = tuple([setting for setting in open_settings(notes) if setting != goal])
    return tuple([
        setting for setting in notes.board.settings
        if first_row(notes.board, worse, setting, others) is None
    ])
