"""Tests of switchhills.squares."""

import unittest
from itertools import permutations
from random import Random

from support import (
    Case, MANY, NO_NOTES, NO_SQUARES, drawn_facts, drawn_order, drawn_part, even_order, few_notes,
    fitting_orders, great_notes, has_ring, inside, kind_by_words, neighbour_pairs, peaks_by_words,
)
from switchhills import squares as module
from switchhills.boards import Board
from switchhills.errors import InvalidSquare, NotNotes
from switchhills.notes import Notes
from switchhills.peaks import one_peak
from switchhills.rankings import Ranking
from switchhills.squares import crossing, is_smooth, kinds, may_cross, rough_part

SMALL = Board((2, 2))
SOME = Notes(SMALL, (("01", "00"), ("10", "00"), ("01", "11")))
CORNERS = ("00", "01", "10", "11")


def kinds_by_rings(notes, square):
    """The kinds of all orders of the corners that make no ring with the facts."""
    found = set()
    for order in permutations(square):
        if not has_ring([*notes.facts, *zip(order, order[1:])]):
            found.add(kind_by_words(order, square))
    return tuple(sorted(found))


class Example(unittest.TestCase):
    def test_the_example_of_the_document(self):
        small, cube, broad = Board((2, 2)), Board.read("222"), Board((3, 2))
        some = Notes(small, (("01", "00"), ("10", "00"), ("01", "11")))
        corners = ("00", "01", "10", "11")
        self.assertEqual(
            [kinds(some, corners), crossing(some, corners).kind(corners), may_cross(some),
             is_smooth(some), is_smooth(some.told("11", "10")), rough_part(some.told("11", "10")),
             kinds(Notes(small), corners)],
            [('crossed', 'turned'), 'crossed', (('00', '01', '10', '11'),), False, True, None,
             ('crossed', 'plain', 'turned')],
        )
        part, ranking = rough_part(Notes(cube))
        self.assertEqual(
            [len(ranking.peaks(part)) > 1, len(may_cross(Notes(broad)))], [True, 3])

    def test_defined_in_the_module_itself(self):
        for call in (kinds, crossing, may_cross, is_smooth, rough_part):
            self.assertEqual(call.__module__, module.__name__)


class Checks(Case):
    def check_crossing(self, notes, square, can):
        ranking = crossing(notes, square)
        if can:
            self.assertIs(type(ranking), Ranking)
            self.assertIs(ranking.board, notes.board)
            self.assertIs(notes.fits(ranking), True)
            self.assertEqual(kind_by_words(ranking.order, square), "crossed")
        else:
            self.assertIsNone(ranking)

    def check_rough_part(self, notes, smooth):
        found = rough_part(notes)
        if smooth:
            self.assertIsNone(found)
            return
        self.assertIs(type(found), tuple)
        part, ranking = found
        self.assertIs(type(ranking), Ranking)
        self.assertIs(ranking.board, notes.board)
        self.assertIs(notes.fits(ranking), True)
        self.tuple_of(str, part)
        self.assertGreater(len(peaks_by_words(ranking.order, inside(part))), 1)
        self.assertEqual(ranking.peaks(part), peaks_by_words(ranking.order, inside(part)))
        self.assertIs(one_peak(notes, part), False)


class AllOrders(Checks):
    """All squares of boards of up to six settings, against all orders that fit."""

    def test_kinds_and_crossing(self):
        for notes in few_notes(Random(1), 40):
            orders = fitting_orders(notes)
            for square in notes.board.squares():
                wanted = tuple(sorted({kind_by_words(order, square) for order in orders}))
                self.assertEqual(kinds(notes, square), wanted)
                self.assertEqual(kinds(square=square, notes=notes), wanted)
                self.tuple_of(str, kinds(notes, square))
                self.check_crossing(notes, square, "crossed" in wanted)

    def test_smooth_notes(self):
        seen = {True: 0, False: 0}
        for notes in few_notes(Random(2), 60):
            orders = fitting_orders(notes)
            wanted = tuple(
                square for square in notes.board.squares()
                if any(kind_by_words(order, square) == "crossed" for order in orders))
            seen[wanted == ()] += 1
            self.assertEqual(may_cross(notes), wanted)
            self.assertEqual(may_cross(notes=notes), wanted)
            self.assertIs(is_smooth(notes), wanted == ())
            self.assertIs(is_smooth(notes=notes), wanted == ())
            self.check_rough_part(notes, wanted == ())
        self.assertGreater(min(seen.values()), 10)


class GreatBoards(Checks):
    def test_kinds_and_crossing(self):
        rng = Random(3)
        for notes in great_notes(rng, 6):
            squares = notes.board.squares()
            for square in rng.sample(squares, min(len(squares), 8)):
                wanted = kinds_by_rings(notes, square)
                self.assertEqual(kinds(notes, square), wanted)
                self.check_crossing(notes, square, "crossed" in wanted)

    def test_may_cross(self):
        for notes in great_notes(Random(4), 3):
            if len(notes.board) <= 18:
                self.assertEqual(may_cross(notes), tuple(
                    square for square in notes.board.squares()
                    if "crossed" in kinds_by_rings(notes, square)))
            self.assertIs(is_smooth(notes), may_cross(notes) == ())
            self.check_rough_part(notes, may_cross(notes) == ())
            self.tuple_of(tuple, may_cross(notes))

    def test_without_facts_every_square_can_be_crossed(self):
        for text in MANY:
            notes = Notes(Board.read(text))
            self.assertEqual(may_cross(notes), notes.board.squares())
            for square in notes.board.squares()[::9]:
                self.assertEqual(kinds(notes, square), ("crossed", "plain", "turned"))

    def test_all_facts_of_an_order(self):
        rng = Random(5)
        for text in MANY:
            board = Board.read(text)
            many = len(neighbour_pairs(board.settings))
            for order in (even_order(rng, board), drawn_order(rng, board)):
                notes = Notes(board, drawn_facts(rng, order, many))
                ranking = Ranking(board, order)
                self.assertEqual(may_cross(notes), ranking.crossed())
                self.assertIs(is_smooth(notes), ranking.smooth())
                self.check_rough_part(notes, ranking.smooth())
                for square in board.squares()[::7]:
                    self.assertEqual(kinds(notes, square), (kind_by_words(order, square),))
            self.assertIs(Ranking(board, even_order(rng, board)).smooth(), True)

    def test_a_fact_less_than_all_of_an_even_order(self):
        rng = Random(6)
        for text in ("222", "232", "22222", "32222"):
            board = Board.read(text)
            pairs = neighbour_pairs(board.settings)
            notes = Notes(board, drawn_facts(rng, even_order(rng, board), len(pairs)))
            for index in rng.sample(range(len(pairs)), 6):
                less = notes.without(index)
                wanted = tuple(square for square in board.squares()
                               if set(notes.facts[index]) <= set(square)
                               and "crossed" in kinds_by_rings(less, square))
                self.assertEqual(may_cross(less), wanted)
                self.check_rough_part(less, wanted == ())

    def test_smooth_notes_leave_each_part_one_peak(self):
        rng = Random(7)
        for text in ("222", "33", "2222", "32222"):
            board = Board.read(text)
            pairs = neighbour_pairs(board.settings)
            notes = Notes(board, drawn_facts(rng, even_order(rng, board), len(pairs)))
            self.assertIs(is_smooth(notes), True)
            for part in [board.whole, *[drawn_part(rng, text) for _ in range(10)]]:
                self.assertIs(one_peak(notes, part), True)


class OneSquare(Checks):
    def test_what_is_known_by_rows_of_facts(self):
        # 00 is known to be worse than 01 by a row over 100, 101 and 001 of another square.
        board = Board.read("222")
        row = ("000", "100", "101", "001")
        notes = Notes(board, tuple(zip(row, row[1:])))
        square = ("000", "001", "010", "011")
        self.assertEqual(notes.known("000", "001"), "worse")
        self.assertEqual(kinds(notes, square), ("crossed", "plain", "turned"))
        self.assertEqual(crossing(notes, square).peaks(("0", "01", "01")), ("001", "010"))
        more = notes.told("001", "011")
        self.assertEqual(kinds(more, square), ("plain", "turned"))
        self.assertIsNone(crossing(more, square))

    def test_opposite_corners_of_which_one_is_known_to_be_worse(self):
        # A is known to be worse than D over settings outside: all the same it can be crossed.
        board = Board.read("222")
        row = ("000", "100", "101", "111", "011")
        notes = Notes(board, tuple(zip(row, row[1:])))
        square = ("000", "001", "010", "011")
        self.assertEqual(notes.known("000", "011"), "worse")
        self.assertEqual(kinds(notes, square), kinds_by_rings(notes, square))
        self.check_crossing(notes, square, True)

    def test_both_ways_to_cross(self):
        low = Notes(SMALL, (("00", "01"),))
        high = Notes(SMALL, (("01", "00"),))
        self.assertEqual(crossing(low, CORNERS).peaks(), ("01", "10"))
        self.assertEqual(crossing(high, CORNERS).peaks(), ("00", "11"))

    def test_kinds_by_each_count_of_facts(self):
        plain = Notes(SMALL, (("00", "01"), ("10", "11"), ("00", "10"), ("01", "11")))
        turned = Notes(SMALL, (("00", "01"), ("11", "10"), ("00", "10"), ("01", "11")))
        crossed = Notes(SMALL, (("00", "01"), ("11", "10"), ("00", "10"), ("11", "01")))
        self.assertEqual(kinds(plain, CORNERS), ("plain",))
        self.assertEqual(kinds(turned, CORNERS), ("turned",))
        self.assertEqual(kinds(crossed, CORNERS), ("crossed",))
        self.assertEqual(kinds(turned.without(0), CORNERS), ("plain", "turned"))
        self.assertEqual(kinds(turned.without(3), CORNERS), ("crossed", "turned"))
        self.assertEqual(kinds(plain.without(0), CORNERS), ("plain", "turned"))
        self.assertEqual(kinds(crossed.without(0), CORNERS), ("crossed", "turned"))
        self.assertEqual(kinds(Notes(SMALL, (("00", "01"), ("10", "11"))), CORNERS),
                         ("plain", "turned"))

    def test_boards_of_one_switch(self):
        for text in ("2", "3"):
            for facts in ((), (("0", "1"),)):
                notes = Notes(Board.read(text), facts)
                self.assertEqual(may_cross(notes), ())
                self.assertIs(is_smooth(notes), True)
                self.assertIsNone(rough_part(notes))


class SameAnswers(unittest.TestCase):
    def test_the_same_answer_each_time(self):
        rng = Random(8)
        for notes in [*list(few_notes(rng, 8))[::5], *great_notes(rng, 1)]:
            again = Notes.read(str(notes))
            self.assertEqual(rough_part(notes), rough_part(again))
            self.assertEqual(rough_part(notes=notes), rough_part(notes))
            for square in notes.board.squares()[::11]:
                self.assertEqual(crossing(notes, square), crossing(again, tuple(list(square))))
                self.assertEqual(crossing(square=square, notes=notes), crossing(notes, square))

    def test_the_notes_stay_as_they_were(self):
        before = str(SOME), SOME.pairs(), SOME.ranking()
        kinds(SOME, CORNERS), crossing(SOME, CORNERS), may_cross(SOME)
        is_smooth(SOME), rough_part(SOME)
        self.assertEqual((str(SOME), SOME.pairs(), SOME.ranking()), before)


class WrongValues(Case):
    def test_no_notes(self):
        for value in NO_NOTES:
            with self.subTest(repr(value)):
                for call in (may_cross, is_smooth, rough_part):
                    self.refused(NotNotes, "given", value, call, value)
                    self.refused(NotNotes, "given", value, call, notes=value)
                for call in (kinds, crossing):
                    self.refused(NotNotes, "given", value, call, value, CORNERS)
                    self.refused(NotNotes, "given", value, call, value, ["no", "square"])
                    self.refused(NotNotes, "given", value, call, square=None, notes=value)

    def test_no_square(self):
        notes = Notes(Board((3, 2)), (("00", "01"),))
        before = str(notes), notes.pairs()
        for value in NO_SQUARES:
            with self.subTest(repr(value)):
                for call in (kinds, crossing):
                    self.refused(InvalidSquare, "given", value, call, notes, value)
                    self.refused(InvalidSquare, "given", value, call, notes, square=value)
        self.assertEqual((str(notes), notes.pairs()), before)

    def test_squares_of_other_boards(self):
        for value in [("00", "01", "20", "21"), ("00", "02", "10", "12"),
                      ("000", "001", "010", "011")]:
            for call in (kinds, crossing):
                self.refused(InvalidSquare, "given", value, call, SOME, value)
                self.refused(InvalidSquare, "given", value, call, Notes(Board((3,))), value)


if __name__ == "__main__":
    unittest.main()
