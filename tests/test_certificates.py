"""Tests of switchhills.certificates."""

import unittest
from itertools import combinations
from random import Random

from support import (
    AlwaysEqual, Case, FEW, MANY, NO_NOTES, NO_SETTINGS, better_ones, crosses_none, drawn_facts,
    drawn_order, even_order, few_notes, fitting_orders, great_notes, neighbour_pairs,
    peaks_by_words, whole_peaks,
)
from switchhills import certificates as module
from switchhills.boards import Board
from switchhills.certificates import certify_one, certify_peaks, certify_smooth, certify_way
from switchhills.checker import accepts
from switchhills.errors import InvalidPeaks, NotNotes, SameSetting, UnknownSetting
from switchhills.notes import Notes
from switchhills.peaks import one_peak, ranking_with
from switchhills.squares import is_smooth

SMALL = Board((2, 2))
SOME = Notes(SMALL, (("01", "00"), ("10", "00"), ("01", "11")))


class CertificateCase(Case):
    def check(self, found, claim):
        """The pair has this claim and a certificate that the checker accepts."""
        self.assertIs(type(found), tuple)
        self.assertEqual(len(found), 2)
        told, paper = found
        self.assertEqual(told, claim)
        self.assertIs(type(told), tuple)
        self.assertIs(type(told[1]), str)
        self.assertIs(type(paper), tuple)
        self.assertIs(accepts(told, paper), True)
        self.assertIs(accepts(*found), True)


class Example(CertificateCase):
    def test_the_example_of_the_document(self):
        some = Notes(Board((2, 2)), (("01", "00"), ("10", "00"), ("01", "11")))
        claim, paper = certify_way(some, "01", "10")
        self.assertEqual(
            [claim, accepts(claim, paper), accepts(claim, ("01", "10", "11", "00")),
             accepts(claim, ("01", "11", "10", "00")), certify_way(some, "01", "00")[1]],
            [('falls', 'board 22\n01 < 00\n10 < 00\n01 < 11', '01', '10'), True, True, False,
             ('01', '00')],
        )
        self.assertEqual(
            [certify_one(some)[0][0], certify_one(some.told("11", "10")),
             certify_smooth(some)[0][0], certify_peaks(some, ("00",))[1],
             certify_peaks(some, ("11",))[0][0]],
            ['two', (('one', 'board 22\n01 < 00\n10 < 00\n01 < 11\n11 < 10'), ()), 'rough',
             ('01', '11', '10', '00'), 'never'],
        )

    def test_defined_in_the_module_itself(self):
        for call in (certify_one, certify_smooth, certify_way, certify_peaks):
            self.assertEqual(call.__module__, module.__name__)


class AllOrders(CertificateCase):
    """All boards of up to six settings, against all orders that fit."""

    def test_one_and_smooth(self):
        seen = {}
        for notes in few_notes(Random(1), 60):
            orders = fitting_orders(notes)
            one = all(len(whole_peaks(order)) == 1 for order in orders)
            smooth = all(crosses_none(order) for order in orders)
            word = "one" if one else "two"
            self.check(certify_one(notes), (word, str(notes)))
            seen[word] = seen.get(word, 0) + 1
            word = "smooth" if smooth else "rough"
            self.check(certify_smooth(notes), (word, str(notes)))
            seen[word] = seen.get(word, 0) + 1
        self.assertGreater(min(seen[word] for word in ("one", "two", "smooth", "rough")), 30)

    def test_ways(self):
        for notes in few_notes(Random(2), 30):
            places = [{setting: at for at, setting in enumerate(order)}
                      for order in fitting_orders(notes)]
            for start in notes.board.settings:
                for goal in notes.board.settings:
                    if start != goal:
                        rises = all(place[start] < place[goal] for place in places)
                        word = "rises" if rises else "falls"
                        found = certify_way(notes, start, goal)
                        self.check(found, (word, str(notes), start, goal))

    def test_sets_of_peaks(self):
        rng = Random(3)
        for notes in few_notes(rng, 12):
            sets = {whole_peaks(order) for order in fitting_orders(notes)}
            settings = notes.board.settings
            every = [row for many in range(1, len(settings) + 1)
                     for row in combinations(settings, many)]
            for peaks in [*sets, *rng.sample(every, min(len(every), 10))]:
                word = "peaks" if peaks in sets else "never"
                self.check(certify_peaks(notes, peaks), (word, str(notes), peaks))


class GreatBoards(CertificateCase):
    def test_all_claims(self):
        rng = Random(4)
        for notes in great_notes(rng, 8):
            text, settings = str(notes), notes.board.settings
            over = better_ones(settings, notes.facts)
            self.check(certify_one(notes), ("one" if one_peak(notes) else "two", text))
            self.check(certify_smooth(notes), ("smooth" if is_smooth(notes) else "rough", text))
            for _ in range(6):
                start, goal = rng.sample(settings, 2)
                word = "rises" if goal in over[start] else "falls"
                self.check(certify_way(notes, start, goal), (word, text, start, goal))
                peaks = tuple(sorted(rng.sample(settings, rng.randrange(1, 5))))
                word = "never" if ranking_with(notes, peaks) is None else "peaks"
                self.check(certify_peaks(notes, peaks), (word, text, peaks))

    def test_all_facts_of_an_order(self):
        rng = Random(5)
        for text in FEW + MANY:
            board = Board.read(text)
            for draw in (drawn_order, even_order):
                order = draw(rng, board)
                notes = Notes(board, drawn_facts(rng, order, len(neighbour_pairs(board.settings))))
                peaks = peaks_by_words(order, board.settings)
                word = "one" if len(peaks) == 1 else "two"
                self.check(certify_one(notes), (word, str(notes)))
                self.check(certify_peaks(notes, peaks), ("peaks", str(notes), peaks))
                for wrong in (peaks[1:], peaks[:-1], (order[0],)):
                    if wrong:
                        self.check(certify_peaks(notes, wrong), ("never", str(notes), wrong))
                if draw is even_order:
                    self.check(certify_smooth(notes), ("smooth", str(notes)))
                    self.check(
                        certify_way(notes, order[0], order[-1]),
                        ("rises", str(notes), order[0], order[-1]))

    def test_without_facts(self):
        for text in FEW + MANY:
            notes = Notes(Board.read(text))
            start, *_, goal = notes.board.settings
            alone = len(text) == 1
            self.check(certify_one(notes), ("one" if alone else "two", str(notes)))
            self.check(certify_smooth(notes), ("smooth" if alone else "rough", str(notes)))
            self.check(certify_way(notes, start, goal), ("falls", str(notes), start, goal))
            self.check(certify_way(notes, goal, start), ("falls", str(notes), goal, start))
            self.check(certify_peaks(notes, (start,)), ("peaks", str(notes), (start,)))
            word = "never" if alone else "peaks"
            self.check(certify_peaks(notes, (start, goal)), (word, str(notes), (start, goal)))


class Calls(CertificateCase):
    def test_by_name(self):
        self.check(certify_one(notes=SOME), ("two", str(SOME)))
        self.check(certify_smooth(notes=SOME), ("rough", str(SOME)))
        self.check(
            certify_way(goal="00", start="01", notes=SOME), ("rises", str(SOME), "01", "00"))
        self.check(certify_peaks(peaks=("11",), notes=SOME), ("never", str(SOME), ("11",)))

    def test_the_same_answer_each_time_and_nothing_changes(self):
        rng = Random(6)
        for notes in [SOME, *great_notes(rng, 2)]:
            before = str(notes), notes.pairs()
            again = Notes.read(str(notes))
            start, *_, goal = notes.board.settings
            self.assertEqual(certify_one(notes), certify_one(again))
            self.assertEqual(certify_smooth(notes), certify_smooth(again))
            self.assertEqual(certify_way(notes, start, goal), certify_way(again, start, goal))
            self.assertEqual(certify_peaks(notes, (start,)), certify_peaks(again, (start,)))
            self.assertEqual((str(notes), notes.pairs()), before)


class WrongValues(Case):
    def test_no_notes(self):
        for value in NO_NOTES:
            with self.subTest(repr(value)):
                for call in (certify_one, certify_smooth):
                    self.refused(NotNotes, "given", value, call, value)
                    self.refused(NotNotes, "given", value, call, notes=value)
                self.refused(NotNotes, "given", value, certify_way, value, "00", "01")
                self.refused(NotNotes, "given", value, certify_way, value, None, "wrong")
                self.refused(NotNotes, "given", value, certify_way, value, "00", "00")
                self.refused(NotNotes, "given", value, certify_way, goal=1, start=[], notes=value)
                self.refused(NotNotes, "given", value, certify_peaks, value, ("00",))
                self.refused(NotNotes, "given", value, certify_peaks, value, ())
                self.refused(NotNotes, "given", value, certify_peaks, peaks=None, notes=value)

    def test_no_settings(self):
        before = str(SOME), SOME.pairs()
        for value in NO_SETTINGS:
            with self.subTest(repr(value)):
                self.refused(UnknownSetting, "given", value, certify_way, SOME, value, "00")
                self.refused(UnknownSetting, "given", value, certify_way, SOME, "00", value)
                self.refused(UnknownSetting, "given", value, certify_way, SOME, value, "wrong")
                self.refused(UnknownSetting, "given", value, certify_way, SOME, value, value)
                self.refused(
                    UnknownSetting, "given", value, certify_way, goal=value, start="00", notes=SOME)
                self.refused(
                    UnknownSetting, "given", value, certify_way, goal=None, start=value, notes=SOME)
        self.assertEqual((str(SOME), SOME.pairs()), before)

    def test_the_same_setting(self):
        for notes in (SOME, Notes(SMALL)):
            for setting in SMALL.settings:
                self.refused(SameSetting, "given", setting, certify_way, notes, setting, setting)
                self.refused(
                    SameSetting, "given", setting, certify_way,
                    goal=setting, start=setting, notes=notes)
        # The goal is told, where the two are equal but not the same object.
        start, goal = "".join(["0", "1"]), "".join(["0", "1"])
        self.refused(SameSetting, "given", goal, certify_way, SOME, start, goal)

    def test_no_peaks(self):
        for value in (None, True, 0, "", "00", b"", [], ["00"], {}, {"00": 1}, {"00"}, object(),
                      AlwaysEqual(), SMALL, SOME, SOME.ranking(), tuple, ()):
            with self.subTest(repr(value)):
                self.refused(InvalidPeaks, "index", None, certify_peaks, SOME, value)
                self.refused(InvalidPeaks, "index", None, certify_peaks, peaks=value, notes=SOME)
        for peaks, index in [
            (("00", "00"), 1), (("11", "00"), 1), (("00", "11", "10"), 2), (("20",), 0),
            (("00", "20"), 1), (("00", "01", "10", "11", "11"), 4), (("", "00"), 0),
        ]:
            self.refused(InvalidPeaks, "index", index, certify_peaks, SOME, peaks)
        for value in NO_SETTINGS:
            with self.subTest(repr(value)):
                self.refused(InvalidPeaks, "index", 0, certify_peaks, SOME, (value,))
                self.refused(InvalidPeaks, "index", 1, certify_peaks, SOME, ("00", value))


if __name__ == "__main__":
    unittest.main()
