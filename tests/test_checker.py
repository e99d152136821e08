"""Tests of switchhills.checker."""

import unittest
from itertools import combinations
from random import Random

from support import (
    AlwaysEqual, Case, FEW, MANY, NO_SETTINGS, NO_STRINGS, STRINGS, drawn_facts, drawn_order,
    fitting_orders, great_notes, has_ring, is_square, kind_by_words, neighbours, whole_peaks,
    crosses_none, drawn_notes, peaks_by_words,
)
from switchhills import checker as module
from switchhills.boards import Board
from switchhills.checker import accepts
from switchhills.notes import Notes
from switchhills.peaks import ranking_with
from switchhills.rankings import Ranking

SMALL = Board((2, 2))
SOME = Notes(SMALL, (("01", "00"), ("10", "00"), ("01", "11")))
FULL = SOME.told("11", "10")
TEXT, WHOLE = str(SOME), str(FULL)
SQUARE = ("00", "01", "10", "11")
ORDER = ("01", "10", "11", "00")

# Claims, each with a certificate for it.
GOOD = [
    (("one", WHOLE), ()),
    (("two", TEXT), ORDER),
    (("smooth", WHOLE), ()),
    (("rough", TEXT), (SQUARE, ORDER)),
    (("rises", TEXT, "01", "00"), ("01", "00")),
    (("rises", WHOLE, "01", "00"), ("01", "11", "10", "00")),
    (("rises", WHOLE, "11", "00"), ("11", "10", "00")),
    (("falls", TEXT, "01", "10"), ORDER),
    (("falls", TEXT, "11", "00"), ORDER),
    (("falls", WHOLE, "00", "01"), ("01", "11", "10", "00")),
    (("peaks", TEXT, ("00",)), ("01", "11", "10", "00")),
    (("peaks", TEXT, ("00", "11")), ORDER),
    (("never", TEXT, ("11",)), ()),
    (("never", WHOLE, ("00", "11")), ()),
]

NO_TEXTS = [
    *NO_STRINGS, *STRINGS[:-3], "", "22", "board", "board ", "board  22", "board 22 ", " board 22",
    "board 22\n", "\nboard 22", "Board 22", "board 21", "board 222222", "board 22\n01 < 00\n",
    "board 22\n\n01 < 00", "board 22\n01 <00", "board 22\n01 > 00", "board 22\n01 < 11 < 10",
    "board 22\n01 < 10", "board 22\n01 < 00\n01 < 00", "board 22\n01 < 00\n00 < 01",
    "board 22\n00 < 01\n01 < 11\n11 < 10\n10 < 00", "board 22\n01  < 00", "board 22\r\n01 < 00",
    TEXT + "\n", TEXT + "\n11 < 20", TEXT.replace("\n", " "), TEXT.upper(), SOME, [TEXT], (TEXT,),
    (str(SOME), str(SOME)), SOME.facts, {TEXT: 1}, "board 22" + "\n01 < 00" * 700,
]


def fits_by_words(notes, order):
    """Whether a value is a ranking of the notes' board, as [8] says, that fits."""
    if type(order) is not tuple or not all(type(one) is str for one in order):
        return False
    if tuple(sorted(order)) != notes.board.settings:
        return False
    return all(order.index(worse) < order.index(better) for worse, better in notes.facts)


def rises_by_words(order, start, goal):
    """Whether a rising row leads from the start to the goal."""
    reached = {start}
    for setting in order[order.index(start):]:
        if any(near in reached and order.index(near) < order.index(setting)
               for near in neighbours(setting, order)):
            reached.add(setting)
    return goal in reached


def is_row_of_facts(notes, row, start, goal):
    if type(row) is not tuple or len(row) == 0 or not all(type(one) is str for one in row):
        return False
    return (row[0], row[-1]) == (start, goal) and all(
        step in notes.facts for step in zip(row, row[1:]))


def shown_by_words(notes, kind, rest, paper):
    """Whether [18] says that this is a certificate for the claim, and the claim is true: what
    holds by each ranking is told by all orders, on boards of a few settings."""
    if kind in ("one", "smooth", "never"):
        if type(paper) is not tuple or paper != ():
            return False
        orders = fitting_orders(notes)
        return {
            "one": lambda: all(len(whole_peaks(order)) == 1 for order in orders),
            "smooth": lambda: all(crosses_none(order) for order in orders),
            "never": lambda: all(whole_peaks(order) != rest[0] for order in orders),
        }[kind]()
    if kind == "rises":
        return is_row_of_facts(notes, paper, *rest)
    if kind == "rough":
        if type(paper) is not tuple or len(paper) != 2:
            return False
        square, order = paper
        squares = [corners for corners in combinations(notes.board.settings, 4)
                   if is_square(corners)]
        if type(square) is not tuple or square not in squares:
            return False
        return fits_by_words(notes, order) and kind_by_words(order, square) == "crossed"
    if not fits_by_words(notes, paper):
        return False
    if kind == "two":
        return len(whole_peaks(paper)) > 1
    if kind == "falls":
        return not rises_by_words(paper, *rest)
    return whole_peaks(paper) == rest[0]


def bent(rng, row, settings):
    """A row with something small changed."""
    row = list(row)
    at, other = rng.randrange(len(row) + 1), rng.randrange(len(row) + 1)
    kind = rng.randrange(6)
    if kind == 0:
        row.insert(at, rng.choice(settings))
    elif row and kind == 1:
        row.pop(at % len(row))
    elif row and kind == 2:
        row[at % len(row)] = rng.choice([*settings, "9", None, b"00", 0, True, ("00",), ["00"]])
    elif row and kind == 3:
        row[at % len(row)], row[other % len(row)] = row[other % len(row)], row[at % len(row)]
    elif kind == 4:
        return row
    else:
        row = row[::-1]
    return tuple(row)


class CheckerCase(Case):
    def judges(self, wanted, claim, paper):
        with self.subTest((claim, paper)):
            self.assertIs(accepts(claim, paper), wanted)


class Example(Case):
    def test_the_example_of_the_document(self):
        claim = ("falls", TEXT, "01", "10")
        self.assertIs(accepts(claim, ("01", "10", "11", "00")), True)
        self.assertIs(accepts(claim, ("01", "11", "10", "00")), False)

    def test_defined_in_the_module_itself(self):
        self.assertEqual(accepts.__module__, module.__name__)


class Good(CheckerCase):
    def test_each_claim_with_its_certificate(self):
        for claim, paper in GOOD:
            self.judges(True, claim, paper)
            self.assertIs(accepts(certificate=paper, claim=claim), True)

    def test_no_certificate_for_another_claim(self):
        for claim, _ in GOOD:
            for other, paper in GOOD:
                notes = Notes.read(claim[1])
                self.judges(shown_by_words(notes, claim[0], claim[2:], paper), claim, paper)

    def test_other_words_and_other_numbers_of_words(self):
        for claim, paper in GOOD:
            kind, *rest = claim
            for word in (kind.upper(), kind + " ", " " + kind, "", "few", "open", kind[:-1], None, 0,
                         True, b"one", (kind,), [kind], {kind: 1}, AlwaysEqual(), SMALL):
                self.judges(False, (word, *rest), paper)
            for worse in (claim[:-1], claim[1:], (*claim, "00"), (*claim, ()), (*claim, claim[-1]),
                          (kind, *claim), list(claim), (claim,), [claim], (claim, paper), (kind,),
                          kind, (), tuple(reversed(claim)), {kind: claim}, {claim: kind}):
                self.judges(False, worse, paper)

    def test_texts_that_are_no_notes(self):
        for claim, paper in GOOD:
            for text in NO_TEXTS:
                self.judges(False, (claim[0], text, *claim[2:]), paper)

    def test_certificates_of_other_kinds(self):
        for claim, paper in GOOD:
            papers = [*NO_STRINGS, *STRINGS, list(paper), (paper,), [paper], str(paper), (*paper, ()),
                      (*paper, "00"), {key: 1 for key in paper}, (None,), ((),), ([],), SOME, SMALL,
                      Ranking(SMALL, ORDER), (Ranking(SMALL, ORDER),), (SQUARE, Ranking(SMALL, ORDER)),
                      (AlwaysEqual(),) * 4, (AlwaysEqual(),) * 2, AlwaysEqual(), "", 0, False]
            if paper != ():
                papers += [(), paper[:-1], paper[1:], (paper[0],), paper + paper]
            for wrong in papers:
                if type(wrong) is tuple and wrong == () and paper == ():
                    continue
                self.judges(False, claim, wrong)

    def test_any_values(self):
        for claim in [*NO_STRINGS, *STRINGS, (), ("one",), ("smooth",), AlwaysEqual(),
                      (AlwaysEqual(), TEXT), ("one", AlwaysEqual()), (None, None), ((), ())]:
            for paper in [*NO_STRINGS, *STRINGS, (), AlwaysEqual()]:
                self.judges(False, claim, paper)


class Settings(CheckerCase):
    def test_wrong_settings(self):
        for kind, paper in (("rises", ("01", "00")), ("falls", ORDER)):
            for value in NO_SETTINGS:
                self.judges(False, (kind, TEXT, value, "00"), paper)
                self.judges(False, (kind, TEXT, "01", value), paper)
                self.judges(False, (kind, TEXT, value, value), paper)

    def test_the_same_setting_twice(self):
        for setting in SMALL.settings:
            self.judges(False, ("rises", TEXT, setting, setting), (setting,))
            self.judges(False, ("rises", TEXT, setting, setting), (setting, setting))
            self.judges(False, ("falls", TEXT, setting, setting), ORDER)

    def test_settings_of_another_board(self):
        self.judges(False, ("rises", "board 3\n1 < 0", "01", "00"), ("01", "00"))
        self.judges(False, ("falls", "board 3", "01", "10"), ORDER)
        self.judges(False, ("peaks", "board 3", ("00",)), ORDER)
        self.judges(False, ("never", "board 3", ("11",)), ())
        self.judges(False, ("two", "board 23"), ORDER)
        self.judges(False, ("rough", "board 222"), (SQUARE, ORDER))

    def test_wrong_peaks(self):
        for kind, paper in (("peaks", ORDER), ("never", ())):
            for peaks in [
                *[value for value in NO_STRINGS if value not in (("00",), ("00", "01"))],
                AlwaysEqual(), (), ("11", "00"), ("00", "00"), ("00", "11", "11"), ["00", "11"],
                ("00", "02"), ("00", "11", "20"), ("0",), ("00", None), (None, "00"), "00", "11",
                (AlwaysEqual(), "11"), ("00", AlwaysEqual()), (("00",), "11"), {"00": 1},
                ("01", "00"), ("10", "01"), (b"00",), ("00", ["11"]),
            ]:
                self.judges(False, (kind, TEXT, peaks), paper)


class Rows(CheckerCase):
    def test_each_step_is_a_fact(self):
        notes = Notes(Board((3,)), (("0", "1"), ("1", "2")))
        claim = ("rises", str(notes), "0", "2")
        self.judges(True, claim, ("0", "1", "2"))
        # It is known, but no fact.
        self.judges(False, claim, ("0", "2"))
        self.judges(True, ("rises", str(notes.told("0", "2")), "0", "2"), ("0", "2"))
        for paper in (("2", "1", "0"), ("0", "1"), ("1", "2"), ("0", "0", "1", "2"), ("0",), (),
                      ("0", "1", "2", "2"), ["0", "1", "2"], ("0", "1", "1", "2"), "012",
                      ("0", AlwaysEqual(), "2"), (AlwaysEqual(), "1", "2"), ("0", ("1",), "2"),
                      (("0", "1"), ("1", "2"))):
            self.judges(False, claim, paper)

    def test_a_longer_row_than_needed(self):
        notes = Notes(SMALL, (("00", "01"), ("01", "11"), ("00", "10"), ("10", "11")))
        for middle in ("01", "10"):
            self.judges(True, ("rises", str(notes), "00", "11"), ("00", middle, "11"))
        self.judges(True, ("rises", WHOLE, "01", "00"), ("01", "11", "10", "00"))


class Truth(CheckerCase):
    """Small boards: what is accepted is exactly what the document says, by all orders that fit."""

    def claims(self, rng, notes):
        text, settings = str(notes), notes.board.settings
        one, other = rng.sample(settings, 2)
        peaks = tuple(sorted(rng.sample(settings, rng.randrange(1, min(4, len(settings) + 1)))))
        some = whole_peaks(rng.choice(fitting_orders(notes)))
        return [("one", text), ("two", text), ("smooth", text), ("rough", text),
                ("rises", text, one, other), ("falls", text, one, other), ("peaks", text, peaks),
                ("peaks", text, some), ("never", text, peaks), ("never", text, some)]

    def papers(self, rng, notes, claim):
        settings = notes.board.settings
        squares = [corners for corners in combinations(settings, 4) if is_square(corners)]
        square = rng.choice(squares) if squares else settings
        orders = fitting_orders(notes)
        for order in [rng.choice(orders), rng.choice(orders), drawn_order(rng, notes.board)]:
            yield from (order, bent(rng, order, settings), (square, order))
            yield bent(rng, square, settings), order
            yield square, bent(rng, order, settings)
            yield bent(rng, (square, order), settings)
        row = [rng.choice(settings)] if claim[0] != "rises" else [claim[2]]
        for _ in range(rng.randrange(4)):
            betters = [better for worse, better in notes.facts if worse == row[-1]]
            row.append(rng.choice(betters or settings))
        yield from (tuple(row), bent(rng, row, settings), (), (*row, claim[-1]))

    def test_drawn_and_bent_certificates(self):
        rng = Random(1)
        seen = {}
        for text in FEW:
            board = Board.read(text)
            for _ in range(60):
                notes = drawn_notes(rng, board)
                for claim in self.claims(rng, notes):
                    for paper in self.papers(rng, notes, claim):
                        wanted = shown_by_words(notes, claim[0], claim[2:], paper)
                        self.judges(wanted, claim, paper)
                        key = claim[0], wanted
                        seen[key] = seen.get(key, 0) + 1
        self.assertEqual(len(seen), 16)
        self.assertGreater(min(seen.values()), 40, seen)

    def test_rows_of_facts(self):
        rng = Random(2)
        seen = {True: 0, False: 0}
        for text in FEW:
            board = Board.read(text)
            for _ in range(40):
                notes = drawn_notes(rng, board)
                for _ in range(10):
                    row = [rng.choice(board.settings)]
                    for _ in range(rng.randrange(1, 4)):
                        betters = [better for worse, better in notes.facts if worse == row[-1]]
                        row.append(rng.choice(betters or neighbours(row[-1], board.settings)))
                    if row[0] != row[-1]:
                        claim = ("rises", str(notes), row[0], row[-1])
                        wanted = is_row_of_facts(notes, tuple(row), row[0], row[-1])
                        self.judges(wanted, claim, tuple(row))
                        seen[wanted] += 1
        self.assertGreater(min(seen.values()), 200)


class GreatBoards(CheckerCase):
    def test_rankings(self):
        rng = Random(3)
        for text in MANY:
            board = Board.read(text)
            for _ in range(4):
                order = drawn_order(rng, board)
                notes = Notes(board, drawn_facts(rng, order))
                text = str(notes)
                peaks = peaks_by_words(order, board.settings)
                start, goal = rng.sample(board.settings, 2)
                square = rng.choice(board.squares())
                self.judges(len(peaks) > 1, ("two", text), order)
                self.judges(True, ("peaks", text, peaks), order)
                self.judges(False, ("never", text, peaks), ())
                self.judges(len(peaks) == 1, ("peaks", text, peaks[:1]), order)
                self.judges(not rises_by_words(order, start, goal), ("falls", text, start, goal), order)
                self.judges(
                    kind_by_words(order, square) == "crossed", ("rough", text), (square, order))
                if notes.facts:
                    worse, better = rng.choice(notes.facts)
                    turned = list(order)
                    turned[order.index(worse)], turned[order.index(better)] = better, worse
                    # This one does not fit.
                    for claim in (("two", text), ("peaks", text, peaks), ("falls", text, better, worse)):
                        self.judges(False, claim, tuple(turned))
                    self.judges(True, ("rises", text, worse, better), (worse, better))

    def test_never(self):
        rng = Random(4)
        seen = {True: 0, False: 0}
        for notes in great_notes(rng, 6):
            settings = notes.board.settings
            peaks = tuple(sorted(rng.sample(settings, rng.randrange(1, 4))))
            never = ranking_with(notes, peaks) is None
            if has_ring([*notes.facts, *[(near, peak) for peak in peaks
                                         for near in neighbours(peak, settings)]]):
                self.assertIs(never, True)
            self.judges(never, ("never", str(notes), peaks), ())
            seen[never] += 1
        self.assertGreater(seen[True], 20)


class Calls(Case):
    def test_nothing_changes_and_the_same_answer_each_time(self):
        for claim, paper in GOOD:
            before = repr((claim, paper))
            self.assertIs(accepts(claim, paper), accepts(claim, paper))
            self.assertEqual(repr((claim, paper)), before)


if __name__ == "__main__":
    unittest.main()
