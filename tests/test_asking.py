"""Tests of switchhills.asking."""

import unittest
from itertools import product
from random import Random

from support import (
    Case, FEW, MANY, NO_NOTES, NO_SETTINGS, all_places, better_ones, drawn_facts, drawn_notes,
    drawn_order, few_notes, fitting_orders, great_notes, neighbour_pairs, neighbours,
    peaks_by_words,
)
from switchhills import asking as module
from switchhills.asking import answers, best_pairs
from switchhills.boards import Board
from switchhills.errors import InvalidFact, NotNotes, UnknownSetting
from switchhills.notes import Notes
from switchhills.peaks import open_settings

SMALL = Board((2, 2))
SOME = Notes(SMALL, (("01", "00"), ("10", "00"), ("01", "11")))

PEAKS = {
    text: {order: peaks_by_words(order, sorted(order))
           for order, _ in all_places(Board.read(text).settings)}
    for text in FEW
}


def open_by_words(settings, facts):
    """How many settings are known to be worse than none of their neighbours."""
    over = better_ones(settings, facts)
    return len([setting for setting in settings
                if not over[setting] & set(neighbours(setting, settings))])


def best_by_words(notes, numbers):
    """Of all pairs with their two numbers those with the least greater one."""
    least = min(map(max, numbers.values()), default=None)
    return tuple(sorted(pair for pair in numbers if max(numbers[pair]) == least))


class Example(unittest.TestCase):
    def test_the_example_of_the_document(self):
        small, cube = Board((2, 2)), Board.read("222")
        some = Notes(small, (("01", "00"), ("10", "00"), ("01", "11")))
        self.assertEqual(
            [answers(some, "10", "11"), best_pairs(some), answers(Notes(small), "00", "01"),
             len(best_pairs(Notes(cube))), best_pairs(some.told("10", "11"))],
            [(2, 1), (('10', '11'),), (3, 3), 12, ()],
        )

    def test_defined_in_the_module_itself(self):
        for call in (answers, best_pairs):
            self.assertEqual(call.__module__, module.__name__)


class AllOrders(Case):
    """All boards of up to six settings, against all orders that fit either answer."""

    def test_answers_and_best_pairs(self):
        for notes in few_notes(Random(1), 40):
            peaks = PEAKS[str(notes.board)]
            orders = [(order, {setting: at for at, setting in enumerate(order)})
                      for order in fitting_orders(notes)]
            numbers = {}
            for low, high in neighbour_pairs(notes.board.settings):
                ups = {peak for order, place in orders if place[low] < place[high]
                       for peak in peaks[order]}
                downs = {peak for order, place in orders if place[low] > place[high]
                         for peak in peaks[order]}
                if ups and downs:
                    numbers[low, high] = len(ups), len(downs)
                    found = answers(notes, low, high)
                    self.tuple_of(int, found)
                    self.assertEqual(found, (len(ups), len(downs)))
                    self.assertEqual(answers(notes, high, low), (len(downs), len(ups)))
                else:
                    self.refused_pair(InvalidFact, (low, high), answers, notes, low, high)
                    self.refused_pair(InvalidFact, (high, low), answers, notes, high, low)
            self.assertEqual(best_pairs(notes), best_by_words(notes, numbers))
            self.tuple_of(tuple, best_pairs(notes))


class GreatBoards(Case):
    def test_answers_and_best_pairs(self):
        rng = Random(2)
        refused = 0
        for notes in great_notes(rng, 4):
            settings = notes.board.settings
            over = better_ones(settings, notes.facts)
            numbers = {}
            for low, high in neighbour_pairs(settings):
                if low in over[high] or high in over[low]:
                    refused += 1
                    self.refused_pair(InvalidFact, (low, high), answers, notes, low, high)
                    self.refused_pair(InvalidFact, (high, low), answers, notes, high, low)
                    continue
                if len(settings) > 18 and rng.random() < 0.9:
                    numbers[low, high] = answers(notes, low, high)
                    continue
                numbers[low, high] = (open_by_words(settings, (*notes.facts, (low, high))),
                                      open_by_words(settings, (*notes.facts, (high, low))))
                self.assertEqual(answers(notes, low, high), numbers[low, high])
                self.assertEqual(answers(notes, high, low), numbers[low, high][::-1])
            self.assertEqual(tuple(sorted(numbers)), notes.pairs())
            self.assertEqual(best_pairs(notes), best_by_words(notes, numbers))
        self.assertGreater(refused, 300)

    def test_the_numbers_of_the_notes_with_either_fact_more(self):
        rng = Random(3)
        for notes in great_notes(rng, 3):
            pairs = notes.pairs()
            for low, high in rng.sample(pairs, min(len(pairs), 10)):
                self.assertEqual(answers(notes, low, high), (
                    len(open_settings(notes.told(low, high))),
                    len(open_settings(notes.told(high, low)))))

    def test_no_pairs(self):
        rng = Random(4)
        for text in FEW + MANY:
            board = Board.read(text)
            facts = drawn_facts(rng, drawn_order(rng, board), len(neighbour_pairs(board.settings)))
            self.assertEqual(best_pairs(Notes(board, facts)), ())

    def test_without_facts(self):
        for text in FEW + MANY:
            board = Board.read(text)
            notes = Notes(board)
            self.assertEqual(best_pairs(notes), notes.pairs())
            low, high = notes.pairs()[-1]
            self.assertEqual(answers(notes, high, low), (len(board) - 1, len(board) - 1))


class Pairs(Case):
    def test_best_pairs_are_of_two_open_settings_if_there_are_such(self):
        # 10 is not open any more: whoever compares it with 11 may learn nothing of peaks.
        notes = Notes(SMALL, (("10", "00"),))
        self.assertEqual(notes.pairs(), (("00", "01"), ("01", "11"), ("10", "11")))
        self.assertEqual(answers(notes, "10", "11"), (3, 2))
        self.assertEqual(answers(notes, "11", "10"), (2, 3))
        self.assertEqual(best_pairs(notes), (("00", "01"), ("01", "11")))

    def test_of_pairs_of_settings_that_are_not_open(self):
        notes = Notes(Board((3,)), (("0", "2"), ("1", "2")))
        self.assertEqual(answers(notes, "0", "1"), (1, 1))
        self.assertEqual(best_pairs(notes), (("0", "1"),))

    def test_known_though_no_fact(self):
        notes = Notes(Board((3,)), (("0", "1"), ("1", "2")))
        self.refused_pair(InvalidFact, ("0", "2"), answers, notes, "0", "2")
        self.refused_pair(InvalidFact, ("2", "0"), answers, notes, "2", "0")
        self.assertEqual(best_pairs(notes), ())

    def test_one_switch(self):
        notes = Notes(Board((2,)))
        self.assertEqual(answers(notes, "1", "0"), (1, 1))
        self.assertEqual(best_pairs(notes), (("0", "1"),))
        self.assertEqual(best_pairs(notes.told("1", "0")), ())


class Calls(Case):
    def test_by_name(self):
        self.assertEqual(answers(better="11", worse="10", notes=SOME), (2, 1))
        self.assertEqual(answers(SOME, better="10", worse="11"), (1, 2))
        self.assertEqual(best_pairs(notes=SOME), (("10", "11"),))

    def test_the_same_answer_each_time_and_nothing_changes(self):
        before = str(SOME), SOME.pairs(), SOME.ranking()
        again = Notes.read(str(SOME))
        self.assertEqual(answers(SOME, "11", "10"), answers(again, "11", "10"))
        self.assertEqual(best_pairs(SOME), best_pairs(again))
        self.assertEqual((str(SOME), SOME.pairs(), SOME.ranking()), before)


class WrongValues(Case):
    def test_no_notes(self):
        for value in NO_NOTES:
            with self.subTest(repr(value)):
                self.refused(NotNotes, "given", value, answers, value, "10", "11")
                self.refused(NotNotes, "given", value, answers, value, None, "wrong")
                self.refused(NotNotes, "given", value, answers, better=1, worse=[], notes=value)
                self.refused(NotNotes, "given", value, best_pairs, value)
                self.refused(NotNotes, "given", value, best_pairs, notes=value)

    def test_no_settings(self):
        before = str(SOME), SOME.pairs()
        for value in NO_SETTINGS:
            with self.subTest(repr(value)):
                self.refused(UnknownSetting, "given", value, answers, SOME, value, "11")
                self.refused(UnknownSetting, "given", value, answers, SOME, "10", value)
                self.refused(UnknownSetting, "given", value, answers, SOME, value, "wrong")
                self.refused(UnknownSetting, "given", value, answers, SOME, value, value)
                # Also where the other one is in no pair at all.
                self.refused(UnknownSetting, "given", value, answers, SOME, "00", value)
                self.refused(
                    UnknownSetting, "given", value, answers, better=value, worse="10", notes=SOME)
                self.refused(
                    UnknownSetting, "given", value, answers, better=None, worse=value, notes=SOME)
        self.assertEqual((str(SOME), SOME.pairs()), before)

    def test_no_pair_to_ask_for(self):
        for worse, better in product(SMALL.settings, repeat=2):
            if {worse, better} != {"10", "11"}:
                pair = (worse, better)
                self.refused_pair(InvalidFact, pair, answers, SOME, worse, better)
                self.refused_pair(
                    InvalidFact, pair, answers, better=better, notes=SOME, worse=worse)
        for pair in (("00", "11"), ("01", "10"), ("00", "00"), ("11", "11")):
            self.refused_pair(InvalidFact, pair, answers, Notes(SMALL), *pair)


if __name__ == "__main__":
    unittest.main()
