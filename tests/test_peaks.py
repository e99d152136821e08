"""Tests of switchhills.peaks."""

import unittest
from itertools import combinations
from random import Random

from support import (
    AlwaysEqual, Case, FEW, MANY, NO_NOTES, NO_PARTS, NO_SETTINGS, all_places, better_ones,
    drawn_facts, drawn_notes, drawn_order, drawn_part, few_notes, fitting_orders, great_notes,
    has_ring, inside, neighbour_pairs, neighbours, parts_of, peaks_by_words,
)
from switchhills import peaks as module
from switchhills.boards import Board
from switchhills.errors import InvalidPart, InvalidPeaks, NotNotes, TooMany
from switchhills.notes import Notes
from switchhills.peaks import (
    one_peak, open_settings, peak_numbers, ranking_with, sure_peaks, two_peaks,
)
from switchhills.rankings import Ranking

SMALL = Board((2, 2))
SOME = Notes(SMALL, (("01", "00"), ("10", "00"), ("01", "11")))
WITH_PARTS = (open_settings, sure_peaks, one_peak, two_peaks)

# The peaks of each part by each order, for each small board.
PEAKS = {
    (text, part): {order: peaks_by_words(order, inside(part))
                   for order, _ in all_places(Board.read(text).settings)}
    for text in FEW for part in parts_of(text)
}


def all_tuples(settings):
    """All ascending tuples of one or more of these settings."""
    return [row for many in range(1, len(settings) + 1) for row in combinations(settings, many)]


def masks(notes, settings):
    """For each of all settings the bits of those told to be better, and of its neighbours
    among some settings."""
    whole = notes.board.settings
    bits = {setting: 1 << at for at, setting in enumerate(whole)}
    over = [sum(bits[better] for worse, better in notes.facts if worse == setting)
            for setting in whole]
    near = [sum(bits[other] for other in neighbours(setting, settings)) for setting in whole]
    return over, near


def numbers_by_subsets(notes):
    """All numbers of peaks: for each set of settings that may be better than all others, all the
    numbers of peaks that it may have."""
    over, near = masks(notes, notes.board.settings)
    many = len(notes.board)
    numbers = {0: 1}
    for standing in range(1 << many):
        counts = numbers.get(standing)
        if counts is None:
            continue
        for at in range(many):
            if not standing >> at & 1 and over[at] & ~standing == 0:
                more = counts if near[at] & standing else counts << 1
                key = standing | 1 << at
                numbers[key] = numbers.get(key, 0) | more
    last = numbers[(1 << many) - 1]
    return tuple(count for count in range(many + 1) if last >> count & 1)


def can_be_all_by_subsets(notes, peaks, part):
    """Whether these can be all peaks: whether some row of sets leads from none to all settings,
    in which each setting of the part that comes is a peak exactly if it shall be one."""
    whole, some = notes.board.settings, inside(part)
    over, near = masks(notes, some)
    sets, last = {0}, (1 << len(whole)) - 1
    for _ in whole:
        sets = {
            standing | 1 << at for standing in sets for at, setting in enumerate(whole)
            if not standing >> at & 1 and over[at] & ~standing == 0
            and (setting not in some or (setting in peaks) == (near[at] & standing == 0))
        }
    return last in sets


class Example(unittest.TestCase):
    def test_the_example_of_the_document(self):
        small, cube = Board((2, 2)), Board.read("222")
        some = Notes(small, (("01", "00"), ("10", "00"), ("01", "11")))
        self.assertEqual(
            [open_settings(some), sure_peaks(some), one_peak(some), two_peaks(some).peaks(),
             ranking_with(some, ("00",)).order, ranking_with(some, ("11",)), peak_numbers(some)],
            [('00', '11'), ('00',), False, ('00', '11'), ('01', '11', '10', '00'), None, (1, 2)],
        )
        self.assertEqual(
            [one_peak(some.told("11", "10")), open_settings(some, ("1", "01")),
             sure_peaks(some, ("01", "1")), one_peak(some, ("1", "01")), peak_numbers(Notes(cube)),
             ranking_with(Notes(cube), ("000", "011", "101", "110")).peaks(("0", "01", "01"))],
            [True, ('10', '11'), ('11',), True, (1, 2, 3, 4), ('000', '011')],
        )

    def test_defined_in_the_module_itself(self):
        for call in (*WITH_PARTS, ranking_with, peak_numbers):
            self.assertEqual(call.__module__, module.__name__)


class AllOrders(Case):
    """All parts of all boards of up to six settings, against all orders that fit."""

    def check_part(self, notes, part, orders):
        sets = {PEAKS[str(notes.board), part][order] for order in orders}
        found = open_settings(notes, part)
        self.assertEqual(found, tuple(sorted(set().union(*sets))))
        self.tuple_of(str, found)
        self.assertEqual(
            sure_peaks(notes, part), tuple(sorted(set(found).intersection(*sets))))
        alone = all(len(peaks) == 1 for peaks in sets)
        self.assertIs(one_peak(notes, part), alone)
        ranking = two_peaks(notes, part)
        if alone:
            self.assertIsNone(ranking)
        else:
            self.assertIs(type(ranking), Ranking)
            self.assertIs(ranking.board, notes.board)
            self.assertIn(ranking.order, orders)
            self.assertGreater(len(PEAKS[str(notes.board), part][ranking.order]), 1)
        return sets

    def check_sets(self, notes, part, orders, sets, tuples):
        for peaks in tuples:
            ranking = ranking_with(notes, peaks, part)
            if peaks in sets:
                self.assertIs(type(ranking), Ranking)
                self.assertIs(ranking.board, notes.board)
                self.assertIn(ranking.order, orders)
                self.assertEqual(PEAKS[str(notes.board), part][ranking.order], peaks)
            else:
                self.assertIsNone(ranking)

    def test_each_part(self):
        for notes in few_notes(Random(1), 25):
            orders = set(fitting_orders(notes))
            for part in parts_of(str(notes.board)):
                self.check_part(notes, part, orders)

    def test_sets_of_peaks_of_each_part(self):
        rng = Random(2)
        for notes in few_notes(rng, 12):
            text, settings = str(notes.board), notes.board.settings
            orders = set(fitting_orders(notes))
            every = all_tuples(settings)
            for part in parts_of(text):
                sets = {PEAKS[text, part][order] for order in orders}
                tuples = [*sets, *rng.sample(every, min(len(every), 12))]
                self.check_sets(notes, part, orders, sets, tuples)

    def test_all_sets_of_peaks_of_the_whole(self):
        for notes in few_notes(Random(3), 20):
            text, settings = str(notes.board), notes.board.settings
            orders = set(fitting_orders(notes))
            sets = {PEAKS[text, notes.board.whole][order] for order in orders}
            self.check_sets(notes, notes.board.whole, orders, sets, all_tuples(settings))

    def test_numbers_of_peaks(self):
        for notes in few_notes(Random(4), 60):
            sets = {PEAKS[str(notes.board), notes.board.whole][order]
                    for order in fitting_orders(notes)}
            self.assertEqual(peak_numbers(notes), tuple(sorted({len(peaks) for peaks in sets})))
            self.tuple_of(int, peak_numbers(notes))


class WholeAndNames(Case):
    def test_without_a_part(self):
        for notes in [*list(few_notes(Random(5), 8))[::3], *great_notes(Random(6), 2)]:
            whole = notes.board.whole
            for call in WITH_PARTS:
                wanted = call(notes, whole)
                for found in (call(notes), call(notes, None), call(notes, part=None),
                              call(notes=notes), call(part=whole, notes=notes)):
                    self.assertEqual(found, wanted)
            peaks = notes.ranking().peaks()
            wanted = ranking_with(notes, peaks, whole)
            self.assertEqual(wanted.peaks(), peaks)
            for found in (ranking_with(notes, peaks), ranking_with(notes, peaks, None),
                          ranking_with(notes, peaks, part=None),
                          ranking_with(peaks=peaks, notes=notes),
                          ranking_with(part=whole, peaks=peaks, notes=notes)):
                self.assertEqual(found, wanted)

    def test_by_name(self):
        self.assertEqual(peak_numbers(notes=SOME), (1, 2))
        self.assertEqual(open_settings(part=("1", "01"), notes=SOME), ("10", "11"))
        self.assertEqual(sure_peaks(part=("01", "1"), notes=SOME), ("11",))
        self.assertIs(one_peak(part=("1", "01"), notes=SOME), True)
        self.assertIsNone(two_peaks(part=("1", "01"), notes=SOME))

    def test_the_same_answer_each_time(self):
        rng = Random(7)
        for notes in [*list(few_notes(rng, 8))[::5], *great_notes(rng, 2)]:
            again = Notes.read(str(notes))
            for call in WITH_PARTS:
                part = drawn_part(rng, str(notes.board))
                self.assertEqual(call(notes, part), call(notes, part))
                self.assertEqual(call(notes, part), call(again, tuple(list(part))))
            peaks = notes.ranking().peaks()
            self.assertEqual(ranking_with(notes, peaks), ranking_with(again, tuple(list(peaks))))

    def test_the_notes_stay_as_they_were(self):
        before = str(SOME), SOME.pairs(), SOME.ranking()
        for call in WITH_PARTS:
            call(SOME), call(SOME, ("1", "01"))
        ranking_with(SOME, ("00",)), ranking_with(SOME, ("11",)), peak_numbers(SOME)
        self.assertEqual((str(SOME), SOME.pairs(), SOME.ranking()), before)


class OneSwitch(unittest.TestCase):
    def test_without_facts(self):
        for text in ("2", "3"):
            notes = Notes(Board.read(text))
            self.assertEqual(open_settings(notes), notes.board.settings)
            self.assertEqual(sure_peaks(notes), ())
            self.assertIs(one_peak(notes), True)
            self.assertIsNone(two_peaks(notes))
            self.assertEqual(peak_numbers(notes), (1,))
            for setting in notes.board.settings:
                self.assertEqual(ranking_with(notes, (setting,)).order[-1], setting)
            self.assertIsNone(ranking_with(notes, ("0", "1")))

    def test_a_fact(self):
        notes = Notes(Board((3,)), (("1", "0"),))
        self.assertEqual(open_settings(notes), ("0", "2"))
        self.assertEqual(sure_peaks(notes), ())
        self.assertEqual(sure_peaks(notes, ("01",)), ("0",))
        self.assertEqual(open_settings(notes, ("12",)), ("1", "2"))
        self.assertIsNone(ranking_with(notes, ("1",)))
        self.assertEqual(ranking_with(notes, ("1",), ("12",)).order, ("2", "1", "0"))


class OneSetting(unittest.TestCase):
    def test_a_part_of_one_setting(self):
        for notes in [SOME, Notes(SMALL), Notes(Board((3, 2)), (("21", "20"), ("20", "00")))]:
            for setting in notes.board.settings:
                part = tuple(setting)
                self.assertEqual(open_settings(notes, part), (setting,))
                self.assertEqual(sure_peaks(notes, part), (setting,))
                self.assertIs(one_peak(notes, part), True)
                self.assertIsNone(two_peaks(notes, part))
                self.assertIs(notes.fits(ranking_with(notes, (setting,), part)), True)
                for other in notes.board.settings:
                    if other != setting:
                        self.assertIsNone(ranking_with(notes, (other,), part))
                        both = tuple(sorted((setting, other)))
                        self.assertIsNone(ranking_with(notes, both, part))


class GreatBoards(Case):
    def test_open_settings_and_sure_peaks(self):
        rng = Random(8)
        for notes in great_notes(rng, 8):
            over = better_ones(notes.board.settings, notes.facts)
            for part in [notes.board.whole, *[drawn_part(rng, str(notes.board)) for _ in range(4)]]:
                some = inside(part)
                self.assertEqual(open_settings(notes, part), tuple(
                    one for one in some if not over[one] & set(neighbours(one, some))))
                self.assertEqual(sure_peaks(notes, part), tuple(
                    one for one in some if all(one in over[two] for two in neighbours(one, some))))

    def test_two_peaks(self):
        rng = Random(9)
        seen = {True: 0, False: 0}
        for notes in great_notes(rng, 12):
            for part in [notes.board.whole, *[drawn_part(rng, str(notes.board)) for _ in range(3)]]:
                some = inside(part)
                # By a ranking with two peaks these two are peaks: whether there are such two.
                can = any(
                    not has_ring([*notes.facts, *[(near, one) for one in pair
                                                  for near in neighbours(one, some)]])
                    for pair in combinations(open_settings(notes, part), 2))
                seen[can] += 1
                self.assertIs(one_peak(notes, part), not can)
                ranking = two_peaks(notes, part)
                if can:
                    self.assertIs(notes.fits(ranking), True)
                    self.assertGreater(len(peaks_by_words(ranking.order, some)), 1)
                else:
                    self.assertIsNone(ranking)
        self.assertGreater(min(seen.values()), 40)

    def test_two_open_settings_that_cannot_both_be_peaks(self):
        # Each one of 0010 and 1100 is known, by rows that leave the part, to be worse than a
        # neighbour of the other one.
        rows = (
            ("0010", "0011", "0111", "1111", "1110"), ("1100", "1101", "1001", "1011", "1010"),
            ("0000", "0010"), ("0100", "1100"), ("1000", "1100"), ("0110", "1110"),
        )
        notes = Notes(Board.read("2222"), tuple(pair for row in rows for pair in zip(row, row[1:])))
        part = ("01", "01", "01", "0")
        self.assertEqual(open_settings(notes, part), ("0010", "1010", "1100", "1110"))
        self.assertIsNone(ranking_with(notes, ("0010", "1100"), part))
        self.assertFalse(can_be_all_by_subsets(notes, ("0010", "1100"), part))
        self.assertIs(one_peak(notes, part), False)
        ranking = two_peaks(notes, part)
        self.assertIs(notes.fits(ranking), True)
        self.assertGreater(len(ranking.peaks(part)), 1)

    def test_sets_of_peaks_of_rankings(self):
        rng = Random(10)
        for text in MANY:
            board = Board.read(text)
            for _ in range(8):
                order = drawn_order(rng, board)
                notes = Notes(board, drawn_facts(rng, order))
                for part in [board.whole, drawn_part(rng, text), drawn_part(rng, text)]:
                    peaks = peaks_by_words(order, inside(part))
                    ranking = ranking_with(notes, peaks, part)
                    self.assertIs(type(ranking), Ranking)
                    self.assertIs(notes.fits(ranking), True)
                    self.assertEqual(peaks_by_words(ranking.order, inside(part)), peaks)

    def test_sets_of_peaks_against_all_rows_of_sets(self):
        rng = Random(11)
        seen = {True: 0, False: 0}
        for notes in great_notes(rng, 14, ("222", "33", "232")):
            board = notes.board
            for part in [board.whole, drawn_part(rng, str(board))]:
                found = list(open_settings(notes, part))
                for _ in range(4):
                    peaks = tuple(sorted(rng.sample(found, rng.randrange(1, min(4, len(found)) + 1))))
                    can = can_be_all_by_subsets(notes, peaks, part)
                    seen[can] += 1
                    ranking = ranking_with(notes, peaks, part)
                    if can:
                        self.assertIs(notes.fits(ranking), True)
                        self.assertEqual(peaks_by_words(ranking.order, inside(part)), peaks)
                    else:
                        self.assertIsNone(ranking)
        self.assertGreater(min(seen.values()), 60)

    def test_all_facts_of_an_order(self):
        rng = Random(12)
        for text in FEW + MANY:
            board = Board.read(text)
            order = drawn_order(rng, board)
            notes = Notes(board, drawn_facts(rng, order, len(neighbour_pairs(board.settings))))
            for part in [board.whole, drawn_part(rng, text)]:
                peaks = peaks_by_words(order, inside(part))
                self.assertEqual(open_settings(notes, part), peaks)
                self.assertEqual(sure_peaks(notes, part), peaks)
                self.assertIs(one_peak(notes, part), len(peaks) == 1)
                self.assertIs(notes.fits(ranking_with(notes, peaks, part)), True)
                if len(peaks) > 1:
                    self.assertIsNone(ranking_with(notes, peaks[1:], part))
                    self.assertIsNone(ranking_with(notes, peaks[:-1], part))
            if len(board) <= 16:
                self.assertEqual(peak_numbers(notes), (len(notes.ranking().peaks()),))


class SetsOfPeaks(unittest.TestCase):
    def test_settings_that_are_not_in_the_part(self):
        self.assertIsNone(ranking_with(SOME, ("00",), ("1", "01")))
        self.assertIsNone(ranking_with(SOME, ("00", "11"), ("1", "01")))
        self.assertIsNone(ranking_with(SOME, ("01", "11"), ("1", "01")))
        self.assertEqual(ranking_with(SOME, ("11",), ("1", "01")).peaks(("1", "01")), ("11",))

    def test_neighbours(self):
        self.assertIsNone(ranking_with(Notes(SMALL), ("00", "01")))
        self.assertIsNone(ranking_with(Notes(SMALL), ("00", "01", "10", "11")))
        self.assertIsNone(ranking_with(Notes(Board((3,))), ("0", "2")))
        self.assertIsNotNone(ranking_with(Notes(SMALL), ("00", "11")))

    def test_a_sure_peak_that_is_not_there(self):
        self.assertIsNone(ranking_with(SOME, ("11",)))
        notes = Notes(Board.read("222"), (("001", "000"), ("010", "000"), ("100", "000")))
        self.assertEqual(sure_peaks(notes), ("000",))
        self.assertIsNone(ranking_with(notes, ("111",)))
        self.assertIsNone(ranking_with(notes, ("011", "101")))
        self.assertEqual(ranking_with(notes, ("000",)).peaks(), ("000",))
        self.assertEqual(ranking_with(notes, ("000", "111")).peaks(), ("000", "111"))

    def test_what_is_known_to_be_worse(self):
        self.assertIsNone(ranking_with(SOME, ("01",)))
        self.assertIsNone(ranking_with(SOME, ("10",)))
        self.assertEqual(ranking_with(SOME, ("00", "11")).peaks(), ("00", "11"))

    def test_each_other_setting_needs_a_better_neighbour_in_the_part(self):
        # 11 is better than 01, and so 10 must be the neighbour that is better than 11.
        notes = Notes(SMALL, (("01", "11"),))
        self.assertEqual(ranking_with(notes, ("00",)).order[-2:], ("10", "00"))
        # The neighbour that is better stands outside of the part.
        board = Board((3, 2))
        notes = Notes(board, (("00", "20"), ("01", "00"), ("10", "00"), ("11", "01"), ("11", "10")))
        self.assertIsNone(ranking_with(notes, ("01",), ("01", "01")))
        self.assertEqual(ranking_with(notes, ("00",), ("01", "01")).peaks(("01", "01")), ("00",))


class Numbers(Case):
    def test_sixteen_settings(self):
        rng = Random(13)
        board = Board.read("2222")
        for many in (0, 2, 4, 6, 8, 10, 12, 14, 17, 20, 24, 28, 31, 32):
            notes = drawn_notes(rng, board, many)
            self.assertEqual(peak_numbers(notes), numbers_by_subsets(notes))

    def test_up_to_twelve_settings(self):
        for notes in great_notes(Random(14), 15, ("222", "33", "232")):
            self.assertEqual(peak_numbers(notes), numbers_by_subsets(notes))

    def test_without_facts(self):
        for text, many in [("2", 1), ("3", 1), ("22", 2), ("32", 2), ("33", 3), ("222", 4),
                           ("232", 4), ("2222", 8)]:
            self.assertEqual(
                peak_numbers(Notes(Board.read(text))), tuple(range(1, many + 1)))

    def test_numbers_that_do_not_begin_with_one(self):
        cube = Board.read("222")
        facts = [(near, peak) for peak in ("000", "011", "101") for near in cube.beside(peak)]
        notes = Notes(cube, tuple(facts))
        self.assertEqual(peak_numbers(notes), numbers_by_subsets(notes))
        self.assertEqual(peak_numbers(notes), (3, 4))

    def test_too_many_settings(self):
        for text in ("332", "22222", "3222", "2233", "32222"):
            board = Board.read(text)
            for notes in (Notes(board), drawn_notes(Random(15), board)):
                self.refused(TooMany, "given", len(board), peak_numbers, notes)
                self.refused(TooMany, "given", len(board), peak_numbers, notes=notes)
        self.assertEqual(len(peak_numbers(Notes(Board.read("2222")))), 8)


class WrongValues(Case):
    def test_no_notes(self):
        for value in NO_NOTES:
            with self.subTest(repr(value)):
                for call in WITH_PARTS:
                    self.refused(NotNotes, "given", value, call, value)
                    self.refused(NotNotes, "given", value, call, value, ("1", "01"))
                    self.refused(NotNotes, "given", value, call, part=["wrong"], notes=value)
                self.refused(NotNotes, "given", value, ranking_with, value, ("00",))
                self.refused(NotNotes, "given", value, ranking_with, value, ())
                self.refused(NotNotes, "given", value, ranking_with, value, None, "wrong")
                self.refused(
                    NotNotes, "given", value, ranking_with, part=["0"], peaks=(), notes=value)
                self.refused(NotNotes, "given", value, peak_numbers, value)
                self.refused(NotNotes, "given", value, peak_numbers, notes=value)

    def test_no_part(self):
        before = str(SOME), SOME.pairs()
        for value in NO_PARTS:
            with self.subTest(repr(value)):
                for call in WITH_PARTS:
                    self.refused(InvalidPart, "given", value, call, SOME, value)
                    self.refused(InvalidPart, "given", value, call, SOME, part=value)
                self.refused(InvalidPart, "given", value, ranking_with, SOME, ("00",), value)
                # Also where there is no such ranking anyway.
                self.refused(InvalidPart, "given", value, ranking_with, SOME, ("11",), value)
                self.refused(InvalidPart, "given", value, ranking_with, SOME, ("00", "01"), value)
                self.refused(InvalidPeaks, "index", None, ranking_with, SOME, (), value)
                self.refused(InvalidPeaks, "index", 1, ranking_with, SOME, ("00", "00"), part=value)
        self.assertEqual((str(SOME), SOME.pairs()), before)

    def test_no_tuple_of_peaks(self):
        for value in (None, True, False, 0, 1, "", "00", b"", [], ["00"], ["00", "11"], {},
                      {"00": 1}, {"00"}, object(), AlwaysEqual(), SMALL, SOME, SOME.ranking(),
                      tuple, ()):
            with self.subTest(repr(value)):
                self.refused(InvalidPeaks, "index", None, ranking_with, SOME, value)
                self.refused(InvalidPeaks, "index", None, ranking_with, SOME, peaks=value)

    def test_the_first_wrong_peak(self):
        for peaks, index in [
            (("00", "00"), 1), (("11", "00"), 1), (("00", "11", "10"), 2), (("01", "00"), 1),
            (("20",), 0), (("00", "20"), 1), (("00", "02", "00"), 1), (("", "00"), 0),
            (("00", "01", "10", "11", "11"), 4), (("00", "01", "10", "11", "20"), 4),
            (("11", "00", "20"), 1), (("20", "00", "00"), 0), (("000",), 0), (("00", "11", "2"), 2),
        ]:
            with self.subTest(repr(peaks)):
                self.refused(InvalidPeaks, "index", index, ranking_with, SOME, peaks)
                self.refused(InvalidPeaks, "index", index, ranking_with, Notes(SMALL), peaks)
                self.refused(
                    InvalidPeaks, "index", index, ranking_with, SOME, peaks, ("1", "01"))

    def test_peaks_of_other_kinds(self):
        for value in NO_SETTINGS:
            with self.subTest(repr(value)):
                self.refused(InvalidPeaks, "index", 0, ranking_with, SOME, (value,))
                self.refused(InvalidPeaks, "index", 1, ranking_with, SOME, ("00", value))
                self.refused(InvalidPeaks, "index", 2, ranking_with, SOME, ("00", "11", value))
                self.refused(InvalidPeaks, "index", 0, ranking_with, SOME, (value, "00", "00"))


if __name__ == "__main__":
    unittest.main()
