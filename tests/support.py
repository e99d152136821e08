"""What several files of tests need: values of all kinds, and the definitions of the document
written down once more, as plainly as can be."""

import unittest
from functools import lru_cache
from itertools import combinations, permutations, product

from switchhills.boards import Board
from switchhills.console import Console
from switchhills.desks import Desk
from switchhills.errors import InvalidText
from switchhills.notes import Notes
from switchhills.rankings import Ranking


class AlwaysEqual:
    """A foreign object that says that it is equal to everything."""

    def __eq__(self, other):
        return True


class Case(unittest.TestCase):
    def refused(self, error, attribute, value, call, *args, **named):
        """The call raises this error, with this very value."""
        with self.assertRaises(error) as caught:
            call(*args, **named)
        self.assertIs(type(caught.exception), error)
        self.assertIs(getattr(caught.exception, attribute), value)

    def refused_pair(self, error, pair, call, *args, **named):
        """The call raises this error, given a tuple of these very two values."""
        with self.assertRaises(error) as caught:
            call(*args, **named)
        self.assertIs(type(caught.exception), error)
        self.assertIs(type(caught.exception.given), tuple)
        self.assertEqual(len(caught.exception.given), 2)
        for told, passed in zip(caught.exception.given, pair):
            self.assertIs(told, passed)

    def tuple_of(self, kind, value):
        self.assertIs(type(value), tuple)
        self.assertLessEqual({type(element) for element in value}, {kind})


# Boards

def settings_by_product(sizes):
    return tuple(sorted("".join(row) for row in product(*["012"[:size] for size in sizes])))


ALL_SIZES = [
    sizes for many in range(1, 6) for sizes in product((2, 3), repeat=many)
    if len(settings_by_product(sizes)) <= 48
]

# Boards of which all orders of the settings can be looked at.
FEW = ("2", "3", "22", "32", "23")

# Greater boards: of eight, nine, twelve, sixteen, eighteen, 32, 36 and 48 settings.
MANY = ("222", "33", "232", "2222", "332", "22222", "3223", "32222", "22223")

STANDS = {"2": ("0", "1", "01"), "3": ("0", "1", "2", "01", "02", "12", "012")}


def apart(one, other):
    return sum(1 for a, b in zip(one, other) if a != b)


def is_square(corners):
    """The words of the document: two stands each of two switches, alike in the others."""
    stands = [set(column) for column in zip(*corners)]
    return sorted(map(len, stands)) == [1] * (len(stands) - 2) + [2, 2]


def parts_of(text):
    """All parts of the board with this text."""
    return list(product(*[STANDS[size] for size in text]))


def inside(part):
    return sorted("".join(row) for row in product(*part))


def drawn_part(rng, text):
    return tuple(rng.choice(STANDS[size]) for size in text)


def neighbours(setting, settings):
    return [other for other in settings if apart(setting, other) == 1]


@lru_cache(maxsize=None)
def neighbour_pairs(settings):
    return [(low, high) for low, high in combinations(settings, 2) if apart(low, high) == 1]


# Rankings

def drawn_order(rng, board):
    """All settings in some order; often one in which the stands help alike nearly everywhere."""
    kind = rng.randrange(3)
    if kind == 0:
        return tuple(rng.sample(board.settings, len(board)))
    worths = [[rng.random() for _ in range(3)] for _ in board.sizes]
    blur = rng.random() * (kind - 1)
    keys = {
        setting: sum(worth[int(stand)] for worth, stand in zip(worths, setting))
        + blur * rng.random() for setting in board.settings
    }
    return tuple(sorted(board.settings, key=keys.get))


def even_order(rng, board):
    """An order by which each stand of a switch is as good everywhere: surely smooth."""
    worths = [rng.sample(range(10 ** 6), 3) for _ in board.sizes]
    return tuple(sorted(
        board.settings,
        key=lambda setting: sum(worth[int(stand)] for worth, stand in zip(worths, setting)),
    ))


def peaks_by_words(order, settings):
    """The settings among these that are better than all their neighbours among these."""
    place = {setting: at for at, setting in enumerate(order)}
    return tuple(sorted(
        setting for setting in settings
        if all(place[near] < place[setting] for near in neighbours(setting, settings))
    ))


def kind_by_words(order, square):
    place = {setting: at for at, setting in enumerate(order)}
    a, b, c, d = [place[corner] for corner in square]
    if min(a, d) > max(b, c) or max(a, d) < min(b, c):
        return "crossed"
    alike = [(c > a) == (d > b), (b > a) == (d > c)]
    return "plain" if all(alike) else "turned"


# Notes

def has_ring(pairs):
    """Whether there is a ring in these pairs: something is left if ends are taken away."""
    left = list(pairs)
    while left:
        rising = {worse for worse, _ in left}
        fewer = [(worse, better) for worse, better in left if better in rising]
        if len(fewer) == len(left):
            return True
        left = fewer
    return False


def drawn_facts(rng, order, many=None):
    """Facts that hold by an order, in some order."""
    place = {setting: at for at, setting in enumerate(order)}
    pairs = neighbour_pairs(tuple(sorted(order)))
    if many is None:
        many = rng.choice([0, 1, 2, len(pairs) // 4, len(pairs) // 2, len(pairs) - 1, len(pairs)])
        many = max(0, min(len(pairs), many + rng.randrange(-2, 3)))
    return tuple(tuple(sorted(pair, key=place.get)) for pair in rng.sample(pairs, many))


def drawn_notes(rng, board, many=None):
    return Notes(board, drawn_facts(rng, drawn_order(rng, board), many))


def better_ones(settings, facts):
    """For each setting all that a row of facts leads to from it."""
    found = {setting: {better for worse, better in facts if worse == setting}
             for setting in settings}
    for middle in settings:
        for setting in settings:
            if middle in found[setting]:
                found[setting] |= found[middle]
    return found


@lru_cache(maxsize=None)
def all_places(settings):
    """All orders of a few settings, each with the place of each setting."""
    return [(order, {setting: at for at, setting in enumerate(order)})
            for order in permutations(settings)]


def fitting_orders(notes):
    """All orders of the settings by which the facts of the notes hold."""
    return [
        order for order, place in all_places(notes.board.settings)
        if all(place[worse] < place[better] for worse, better in notes.facts)
    ]


@lru_cache(maxsize=None)
def whole_peaks(order):
    return peaks_by_words(order, tuple(sorted(order)))


@lru_cache(maxsize=None)
def crosses_none(order):
    """Whether an order makes no square crossed."""
    settings = sorted(order)
    squares = [corners for corners in combinations(settings, 4) if is_square(corners)]
    return not any(kind_by_words(order, square) == "crossed" for square in squares)


def wish_holds(orders, wish):
    """Whether a wish holds for the notes that just these orders fit."""
    kind, *rest = wish
    tops = {peak for order in orders for peak in whole_peaks(order)}
    return {
        "one": lambda: all(len(whole_peaks(order)) == 1 for order in orders),
        "smooth": lambda: all(crosses_none(order) for order in orders),
        "open": lambda: rest[0] in tops,
        "rises": lambda: all(order.index(rest[0]) < order.index(rest[1]) for order in orders),
        "few": lambda: len(tops) <= rest[0],
    }[kind]()


def all_notes(text):
    """All notes of a board of few pairs, with the facts in one order."""
    board = Board.read(text)
    for row in product((0, 1, 2), repeat=len(neighbour_pairs(board.settings))):
        facts = []
        for told, (low, high) in zip(row, neighbour_pairs(board.settings)):
            facts.extend([[], [(low, high)], [(high, low)]][told])
        if not has_ring(facts):
            yield Notes(board, tuple(facts))


def few_notes(rng, each):
    """Notes of all boards of up to six settings, so many drawn ones of each greater one."""
    for text in ("2", "3", "22"):
        yield from all_notes(text)
    for text in ("32", "23"):
        board = Board.read(text)
        yield Notes(board)
        for _ in range(each):
            yield drawn_notes(rng, board)


def great_notes(rng, each, texts=MANY):
    """Notes of greater boards: for each one some without facts and so many drawn ones."""
    for text in texts:
        board = Board.read(text)
        yield Notes(board)
        for _ in range(each):
            yield drawn_notes(rng, board)


# Values of all kinds

NO_STRINGS = [
    None, True, False, 0, 2, 22, -1, b"", b"00", b"22", (), ("00",), ("00", "01"), (("00",),), [],
    ["00"], ["2", "2"], [["00"], ("01",)], {}, {"00": 1}, {"00"}, frozenset(["00"]), object(), str,
    Board((2, 2)), InvalidText("00"), AlwaysEqual(), (((((("00",),),),),),),
    Ranking(Board((2,)), ("0", "1")), Notes(Board((2, 2))), (Notes(Board((2,))),),
    [Board((2, 2)), ("00", ["01"])], Desk(Notes(Board((2, 2)))), Console(Notes(Board((2, 2)))),
    (Desk(Notes(Board((2,)))),),
]

STRINGS = [
    "", "0", "2", "22", "000", "02", "20", "00\n", " 00", "00 ", "0 0", "ab", "-1", "board 22",
    "board 22\n01 < 00", "crossed",
]

# Among these no board, no ranking and no notes: they are added where they do not fit.
PLAIN = [value for value in [*NO_STRINGS, *STRINGS, "00"]
         if not isinstance(value, (Board, Ranking, Notes))]

NO_BOARDS = [*PLAIN, Notes(Board((2, 2))), Ranking(Board((2,)), ("0", "1")), Board, (Board((2, 2)),)]
NO_RANKINGS = [*PLAIN, Board((2, 2)), Notes(Board((2, 2))), Ranking, ("00", "01", "10", "11"),
               (Ranking(Board((2,)), ("0", "1")),)]
NO_NOTES = [*PLAIN, Board((2, 2)), Ranking(Board((2,)), ("0", "1")), Notes,
            [Notes(Board((2, 2)))], (("01", "00"),)]

# No settings of the board 22.
NO_SETTINGS = [*NO_STRINGS, *STRINGS]

# No parts of the board 22. None is a part.
NO_PARTS = [
    *[value for value in NO_STRINGS if value is not None], *STRINGS, "00", ("0",), ("01",),
    ("0", "0", "0"), ("01", "01", ""), ["0", "0"], ["01", "01"], ("", "0"), ("0", ""),
    ("10", "0"), ("0", "10"), ("00", "0"), ("0", "2"), ("0", "02"), ("0", "012"), ("0 1", "0"),
    ("0\n", "0"), ("a", "0"), (0, 1), ("0", 1), (None, "0"), ("0", None), (("0",), "0"),
    ("0", ["0"]), ("0", b"0"), (True, False), ("0", {}), ("0", {"0"}), ("0", AlwaysEqual()),
]

# No squares of the board 32. The last ones are settings of squares in another order.
NO_SQUARES = [
    *NO_STRINGS, *STRINGS, "00", ["00", "01", "10", "11"], ("00", "01", "10"),
    ("00", "01", "10", "11", "20"), ("00", "01", "10", "10"), ("00", "00", "00", "00"),
    ("00", "01", "10", "20"), ("00", "01", "10", "21"), ("00", "01", "11", "20"),
    ("00", "10", "20", "21"), ("00", "01", "02", "10"), ("00", "02", "10", "12"),
    ("000", "001", "010", "011"), ("0", "1", "2", "3"), ("00", "01", "10", None),
    (None, None, None, None), ("00", "01", "10", b"11"), ("00", "01", "10", ("11",)),
    ("00", "01", "10", ["11"]), ("00", "01", "10", AlwaysEqual()), ("00", "01", "10", {}),
    (AlwaysEqual(), AlwaysEqual(), AlwaysEqual(), AlwaysEqual()), (True, False, True, False),
    (("00", "01", "10", "11"),), (("00", "01"), ("10", "11")), ("00", "01", "10", "11 "),
    *[row for row in permutations(("00", "01", "10", "11")) if row != ("00", "01", "10", "11")],
    ("20", "21", "00", "01"), ("00", "20", "01", "21"), ("21", "20", "01", "00"),
]
