"""Tests of switchhills.counts."""

import unittest
from functools import lru_cache
from itertools import product
from random import Random

from support import (
    Case, FEW, MANY, NO_NOTES, drawn_facts, drawn_notes, drawn_order, even_order, few_notes,
    fitting_orders, has_ring, kind_by_words, neighbour_pairs,
)
from switchhills import counts as module
from switchhills.boards import Board
from switchhills.counts import landscapes, smooth_landscapes
from switchhills.errors import NotNotes, TooMany
from switchhills.notes import Notes
from switchhills.squares import is_smooth

SMALL, CUBE = Board((2, 2)), Board.read("222")
SOME = Notes(SMALL, (("01", "00"), ("10", "00"), ("01", "11")))
BOTH = (landscapes, smooth_landscapes)


def landscape_of(order):
    place = {setting: at for at, setting in enumerate(order)}
    return tuple(tuple(sorted(pair, key=place.get))
                 for pair in neighbour_pairs(tuple(sorted(order))))


@lru_cache(maxsize=None)
def is_smooth_by_words(board_text, order):
    return not any(kind_by_words(order, square) == "crossed"
                   for square in Board.read(board_text).squares())


def crosses(turns, square):
    """Whether both A and D are better than both B and C by these facts, or both worse."""
    a, b, c, d = square
    return ({(b, a), (c, a), (b, d), (c, d)} <= turns or {(a, b), (a, c), (d, b), (d, c)} <= turns)


@lru_cache(maxsize=None)
def turned_cubes():
    """All ways to turn the pairs of neighbours of the board 222 without a ring, as sets of facts,
    each with whether no square is crossed."""
    found = []
    for turns in product(*[(pair, pair[::-1]) for pair in neighbour_pairs(CUBE.settings)]):
        if not has_ring(turns):
            smooth = not any(crosses(set(turns), square) for square in CUBE.squares())
            found.append((frozenset(turns), smooth))
    return found


class Example(unittest.TestCase):
    def test_the_example_of_the_document(self):
        small = Board((2, 2))
        some = Notes(small, (("01", "00"), ("10", "00"), ("01", "11")))
        self.assertEqual(
            [landscapes(some), smooth_landscapes(some), landscapes(Notes(small)),
             smooth_landscapes(Notes(small)), landscapes(Notes.read("board 3")),
             smooth_landscapes(Notes.read("board 3"))],
            [2, 1, 14, 12, 6, 6],
        )

    def test_defined_in_the_module_itself(self):
        for call in BOTH:
            self.assertEqual(call.__module__, module.__name__)


class AllOrders(Case):
    def test_landscapes_of_the_orders_that_fit(self):
        for notes in few_notes(Random(1), 60):
            orders = fitting_orders(notes)
            smooth = [order for order in orders if is_smooth_by_words(str(notes.board), order)]
            for call, some in ((landscapes, orders), (smooth_landscapes, smooth)):
                number = call(notes)
                self.assertIs(type(number), int)
                self.assertEqual(number, len({landscape_of(order) for order in some}))


class EightSettings(Case):
    def check(self, notes):
        facts = set(notes.facts)
        fitting = [smooth for turns, smooth in turned_cubes() if facts <= turns]
        self.assertEqual(landscapes(notes), len(fitting))
        self.assertEqual(smooth_landscapes(notes), sum(fitting))
        self.assertIs(is_smooth(notes), all(fitting))

    def test_without_facts(self):
        self.check(Notes(CUBE))
        # The numbers of all acyclic ways to turn the edges of a cube, told by other means.
        self.assertEqual(landscapes(Notes(CUBE)), 1862)
        self.assertEqual(len(turned_cubes()), 1862)

    def test_drawn_facts(self):
        rng = Random(2)
        for many in [*range(13), *range(13), *range(1, 8)]:
            self.check(drawn_notes(rng, CUBE, many))

    def test_all_facts_of_an_order(self):
        rng = Random(3)
        for draw, smooth in ((drawn_order, None), (even_order, 1)):
            for _ in range(10):
                notes = Notes(CUBE, drawn_facts(rng, draw(rng, CUBE), 12))
                self.assertEqual(landscapes(notes), 1)
                self.check(notes)
                if smooth is not None:
                    self.assertEqual(smooth_landscapes(notes), smooth)

    def test_what_is_known_beside_the_facts(self):
        # The last one of these pairs is known by the row of the others.
        notes = Notes(SMALL, (("00", "01"), ("01", "11"), ("11", "10")))
        self.assertEqual((landscapes(notes), smooth_landscapes(notes)), (1, 1))
        notes = Notes(SMALL, (("00", "01"), ("11", "01"), ("11", "10"), ("00", "10")))
        self.assertEqual((landscapes(notes), smooth_landscapes(notes)), (1, 0))


class OneSwitch(Case):
    def test_all_orders_differ(self):
        # All settings of one switch are neighbours, and there are no squares.
        for facts, many in [((), 6), ((("0", "1"),), 3), ((("0", "1"), ("1", "2")), 1),
                            ((("0", "1"), ("0", "2")), 2)]:
            notes = Notes(Board((3,)), facts)
            self.assertEqual((landscapes(notes), smooth_landscapes(notes)), (many, many))
        notes = Notes(Board((2,)))
        self.assertEqual((landscapes(notes), smooth_landscapes(notes)), (2, 2))


class Calls(Case):
    def test_by_name(self):
        self.assertEqual((landscapes(notes=SOME), smooth_landscapes(notes=SOME)), (2, 1))

    def test_the_same_answer_each_time_and_nothing_changes(self):
        before = str(SOME), SOME.pairs(), SOME.ranking()
        for call in BOTH:
            self.assertEqual(call(SOME), call(Notes.read(str(SOME))))
            self.assertEqual(call(SOME), call(SOME))
        self.assertEqual((str(SOME), SOME.pairs(), SOME.ranking()), before)


class WrongValues(Case):
    def test_no_notes(self):
        for value in NO_NOTES:
            with self.subTest(repr(value)):
                for call in BOTH:
                    self.refused(NotNotes, "given", value, call, value)
                    self.refused(NotNotes, "given", value, call, notes=value)

    def test_more_than_eight_settings(self):
        for text in [*MANY, "322", "223", "2233"]:
            board = Board.read(text)
            if len(board) > 8:
                full = drawn_facts(Random(4), board.settings, len(neighbour_pairs(board.settings)))
                for notes in (Notes(board), drawn_notes(Random(5), board), Notes(board, full)):
                    for call in BOTH:
                        self.refused(TooMany, "given", len(board), call, notes)
                        self.refused(TooMany, "given", len(board), call, notes=notes)

    def test_up_to_eight_settings(self):
        for text in [*FEW, "222"]:
            for call in BOTH:
                self.assertGreater(call(Notes(Board.read(text))), 1)
        self.assertEqual([len(Board.read(text)) for text in ("222", "33")], [8, 9])


if __name__ == "__main__":
    unittest.main()
