"""The console: a desk by lines."""

from switchhills.desks import Desk
from switchhills.errors import InvalidCommand
from switchhills.peaks import one_peak, open_settings, sure_peaks
from switchhills.squares import is_smooth
from switchhills.ways import ends, may_way

DIGITS = "0123456789"
MOST_DIGITS = 8

# What stands behind the words of each form: S is a setting, N is a number.
FORMS = {
    "tell": "SS", "forget": "N", "undo": "", "lift": "N", "promise one": "", "promise smooth": "",
    "promise open": "S", "promise rises": "SS", "promise few": "N", "known": "SS", "open": "",
    "sure": "", "ends": "S", "one": "", "smooth": "", "way": "SS", "asks": "",
}


def is_value(word, kind):
    """Whether a word of a command is a value of this kind."""
    if not 1 <= len(word) <= MOST_DIGITS or not all([sign in DIGITS for sign in word]):
        return False
    return kind == "S" or word == "0" or word[0] != "0"


def parts_of(command):
    """The words of a command, the numbers among them as integers; None if it has no form."""
    if not isinstance(command, str):
        return None
    words = command.split(" ")
    many = 2 if words[0] == "promise" else 1
    kinds = FORMS.get(" ".join(words[:many]))
    rest = words[many:]
    if kinds is None or len(rest) != len(kinds):
        return None
    if not all([is_value(word, kind) for word, kind in zip(rest, kinds)]):
        return None
    return words[:many] + [int(word) if kind == "N" else word for word, kind in zip(rest, kinds)]


def spaced(settings):
    """Settings with spaces between them."""
    return " ".join(settings)


def yes_or_no(answer):
    """The word for True or False."""
    return "yes" if answer else "no"


def do_tell(desk, worse, better):
    """A fact more."""
    desk.tell(worse, better)
    return "ok"


def do_forget(desk, index):
    """Takes a fact out."""
    desk.forget(index)
    return "ok"


def do_undo(desk):
    """Takes back the last change."""
    desk.undo()
    return "ok"


def do_lift(desk, index):
    """Takes a promise away."""
    desk.lift(index)
    return "ok"


def do_promise(desk, *wish):
    """A promise more."""
    desk.promise(wish)
    return "ok"


def say_known(desk, start, goal):
    """What the start is known to be, compared with the goal."""
    return desk.notes.known(start, goal)


def say_open(desk):
    """The open settings."""
    return spaced(open_settings(desk.notes))


def say_sure(desk):
    """The sure peaks."""
    return spaced(sure_peaks(desk.notes))


def say_ends(desk, start):
    """The ends for a start."""
    return spaced(ends(desk.notes, start))


def say_one(desk):
    """Whether there is one peak by each ranking that fits."""
    return yes_or_no(one_peak(desk.notes))


def say_smooth(desk):
    """Whether the notes are smooth."""
    return yes_or_no(is_smooth(desk.notes))


def say_way(desk, start, goal):
    """A row that rises perhaps."""
    row = may_way(desk.notes, start, goal)
    return "none" if row is None else spaced(row)


def say_asks(desk):
    """How many pairs of neighbours can be compared."""
    return str(len(desk.notes.pairs()))


ACTIONS = {
    "tell": do_tell, "forget": do_forget, "undo": do_undo, "lift": do_lift, "promise": do_promise,
    "known": say_known, "open": say_open, "sure": say_sure, "ends": say_ends, "one": say_one,
    "smooth": say_smooth, "way": say_way, "asks": say_asks,
}


class Console:
    """A console, which changes by its own methods and those of its desk."""

    def __init__(self, notes):
        self._desk = Desk(notes)

    @property
    def desk(self):
        """The desk of the console."""
        return self._desk

    def __eq__(self, other):
        # No two consoles have the same desk.
        return isinstance(other, Console) and self._desk == other._desk

    def say(self, command):
        """Does a command, and returns its answer."""
        parts = parts_of(command)
        if parts is None:
            raise InvalidCommand(command)
        word, *values = parts
        action = ACTIONS[word]
        return action(self._desk, *values)
