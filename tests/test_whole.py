"""Tests of what the document promises over the whole program: its parts agree with one another."""

import unittest
from itertools import combinations
from random import Random

from support import (
    Case, FEW, MANY, drawn_facts, drawn_notes, drawn_order, even_order, few_notes, great_notes,
    neighbour_pairs, parts_of,
)
from switchhills.asking import answers, best_pairs
from switchhills.boards import Board
from switchhills.certificates import certify_one, certify_peaks, certify_smooth, certify_way
from switchhills.checker import accepts
from switchhills.console import Console
from switchhills.counts import landscapes, smooth_landscapes
from switchhills.desks import Desk
from switchhills.errors import Broken
from switchhills.notes import Notes
from switchhills.peaks import (
    one_peak, open_settings, peak_numbers, ranking_with, sure_peaks, two_peaks,
)
from switchhills.rankings import Ranking
from switchhills.squares import crossing, is_smooth, kinds, may_cross, rough_part
from switchhills.walks import from_walks
from switchhills.ways import ends, may_way, starts, sure_way, way_ranking


def some_notes(rng):
    """Notes of all kinds of boards."""
    yield from list(few_notes(rng, 10))[::2]
    yield from great_notes(rng, 3)


def few_pairs(rng, board, many):
    """Some pairs of settings, also of the same one."""
    return [(rng.choice(board.settings), rng.choice(board.settings)) for _ in range(many)]


class Ways(Case):
    def test_known_and_sure_ways(self):
        rng = Random(1)
        for notes in some_notes(rng):
            for start, goal in few_pairs(rng, notes.board, 12):
                row, back = sure_way(notes, start, goal), sure_way(notes, goal, start)
                word = {(True, True): "same", (True, False): "worse", (False, True): "better",
                        (False, False): "open"}[row is not None, back is not None]
                self.assertEqual(notes.known(start, goal), word)
                if word == "worse":
                    for ranking in (notes.ranking(), way_ranking(notes, row)):
                        self.assertIs(ranking.better(start, goal), True)
                    self.assertGreater(notes.ranking().rising(start, goal), 0)
                    self.assertLessEqual(len(may_way(notes, start, goal)), len(row))
                if start != goal:
                    claim, paper = certify_way(notes, start, goal)
                    self.assertEqual(claim[0], "rises" if word == "worse" else "falls")
                    self.assertIs(accepts(claim, paper), True)

    def test_ends_ways_and_starts(self):
        rng = Random(2)
        for notes in some_notes(rng):
            tops = open_settings(notes)
            for start, goal in few_pairs(rng, notes.board, 4):
                found = ends(notes, start)
                self.assertEqual(
                    found, tuple(top for top in tops if may_way(notes, start, top) is not None))
                self.assertGreater(len(found), 0)
                self.assertEqual(start in starts(notes, goal), found == (goal,))
                # By each ranking one who rises comes to one of the ends.
                self.assertIn(notes.ranking().climb(start)[-1], found)
                for end in found[:3]:
                    row = may_way(notes, start, end)
                    if len(row) > 1:
                        ranking = way_ranking(notes, row)
                        self.assertIs(notes.fits(ranking), True)
                        self.assertLessEqual(len(ranking.short_way(start, end)), len(row))

    def test_a_setting_that_is_open_is_an_end_for_itself(self):
        for notes in some_notes(Random(3)):
            tops = open_settings(notes)
            for setting in notes.board.settings[:8]:
                self.assertEqual(setting in ends(notes, setting), setting in tops)
            for peak in sure_peaks(notes):
                self.assertEqual(ends(notes, peak), (peak,))


class Peaks(Case):
    def test_sets_that_can_be_all_peaks(self):
        rng = Random(4)
        boards = [*list(few_notes(rng, 10))[::3], *great_notes(rng, 6, ("222",))]
        for notes in boards:
            settings = notes.board.settings
            sets = []
            for many in range(1, len(settings) // 2 + 2):
                for peaks in combinations(settings, many):
                    ranking = ranking_with(notes, peaks)
                    claim, paper = certify_peaks(notes, peaks)
                    self.assertEqual(claim[0], "never" if ranking is None else "peaks")
                    if ranking is not None:
                        self.assertEqual((ranking.peaks(), ranking.order), (peaks, paper))
                        sets.append(set(peaks))
            self.assertEqual(open_settings(notes), tuple(sorted(set().union(*sets))))
            self.assertEqual(sure_peaks(notes), tuple(sorted(sets[0].intersection(*sets))))
            self.assertEqual(peak_numbers(notes), tuple(sorted({len(peaks) for peaks in sets})))
            self.assertEqual(one_peak(notes), peak_numbers(notes) == (1,))
            self.assertEqual(one_peak(notes), two_peaks(notes) is None)

    def test_peaks_of_rankings_that_fit(self):
        rng = Random(5)
        for notes in some_notes(rng):
            tops, sure = set(open_settings(notes)), set(sure_peaks(notes))
            rankings = [notes.ranking(), two_peaks(notes)]
            rankings += [crossing(notes, square) for square in may_cross(notes)[:2]]
            for ranking in rankings:
                if ranking is not None:
                    peaks = ranking.peaks()
                    self.assertLessEqual(sure, set(peaks))
                    self.assertLessEqual(set(peaks), tops)
                    self.assertEqual(ranking_with(notes, peaks).peaks(), peaks)
                    self.assertTrue(len(peaks) == 1 or not one_peak(notes))

    def test_a_part_with_one_setting_out(self):
        # What is open in the whole is open in each part that has it.
        rng = Random(6)
        for notes in some_notes(rng):
            part = rng.choice(parts_of(str(notes.board)))
            inside = set(notes.board.inside(part))
            self.assertLessEqual(
                set(open_settings(notes)) & inside, set(open_settings(notes, part)))
            self.assertLessEqual(set(sure_peaks(notes)) & inside, set(sure_peaks(notes, part)))


class Squares(Case):
    def test_smooth_notes_and_parts_with_one_peak(self):
        rng = Random(7)
        seen = {True: 0, False: 0}
        for notes in [*few_notes(rng, 12), *great_notes(rng, 5, ("222", "33"))]:
            parts = parts_of(str(notes.board))
            smooth = is_smooth(notes)
            seen[smooth] += 1
            self.assertEqual(smooth, all(one_peak(notes, part) for part in parts))
            self.check_rough(notes, smooth)
            for square in notes.board.squares():
                part = tuple("".join(sorted(set(column))) for column in zip(*square))
                self.assertEqual("crossed" in kinds(notes, square), not one_peak(notes, part))
        self.assertGreater(min(seen.values()), 30)

    def check_rough(self, notes, smooth):
        self.assertEqual(certify_smooth(notes)[0][0], "smooth" if smooth else "rough")
        if smooth:
            self.assertIsNone(rough_part(notes))
            self.assertIs(notes.ranking().smooth(), True)
        else:
            part, ranking = rough_part(notes)
            self.assertGreater(len(ranking.peaks(part)), 1)
            self.assertIs(one_peak(notes, part), False)
            self.assertIs(ranking.smooth(), False)

    def test_great_boards(self):
        rng = Random(8)
        for text in MANY:
            board = Board.read(text)
            every = len(neighbour_pairs(board.settings))
            for draw, many in ((even_order, every), (drawn_order, every), (even_order, every - 2)):
                notes = Notes(board, drawn_facts(rng, draw(rng, board), many))
                smooth = is_smooth(notes)
                self.check_rough(notes, smooth)
                if smooth:
                    for part in rng.sample(parts_of(text), 12):
                        self.assertIs(one_peak(notes, part), True)

    def test_counts(self):
        rng = Random(9)
        for notes in [*few_notes(rng, 12), *great_notes(rng, 12, ("222",))]:
            smooth, every = smooth_landscapes(notes), landscapes(notes)
            self.assertEqual(smooth == every, is_smooth(notes))
            self.assertLessEqual(smooth, every)
            pairs = notes.pairs()
            self.assertEqual(every == 1, pairs == ())
            if pairs:
                # A comparison tells landscapes apart, each one by one of its two outcomes.
                low, high = rng.choice(pairs)
                both = [notes.told(low, high), notes.told(high, low)]
                self.assertEqual(sum(landscapes(more) for more in both), every)
                self.assertEqual(sum(smooth_landscapes(more) for more in both), smooth)


class Helping(Case):
    def test_smooth_rankings_of_switches_with_two_stands(self):
        rng = Random(10)
        for text in ("2", "22", "222", "2222", "22222"):
            board = Board.read(text)
            for _ in range(8):
                order = even_order(rng, board)
                notes = Notes(board, drawn_facts(rng, order))
                ranking = Ranking(board, order)
                self.assertIs(ranking.smooth(), True)
                self.assertIs(notes.fits(ranking), True)
                helping = {ranking.helping(setting) for setting in board.settings}
                self.assertEqual(len(helping), len(board))
                (peak,) = ranking.peaks()
                for setting in rng.sample(board.settings, 2):
                    steps = len(ranking.short_way(setting, peak)) - 1
                    self.assertEqual(steps, board.distance(setting, peak))


class Asking(Case):
    def test_answers_and_told(self):
        rng = Random(11)
        for notes in some_notes(rng):
            pairs = notes.pairs()
            best = best_pairs(notes)
            self.assertLessEqual(set(best), set(pairs))
            self.assertEqual(best == (), pairs == ())
            for low, high in rng.sample(pairs, min(len(pairs), 4)):
                more, less = notes.told(low, high), notes.told(high, low)
                numbers = answers(notes, low, high)
                self.assertEqual(
                    numbers, (len(open_settings(more)), len(open_settings(less))))
                self.assertGreaterEqual(max(numbers), max(answers(notes, *best[0])))

    def test_comparisons_until_one_peak_is_left(self):
        # Whoever asks for the best pairs comes to one open setting, the best one of all.
        rng = Random(12)
        for text in FEW + MANY:
            board = Board.read(text)
            ranking = Ranking(board, even_order(rng, board))
            desk = Desk(Notes(board))
            while not one_peak(desk.notes):
                low, high = rng.choice(best_pairs(desk.notes))
                desk.tell(*((low, high) if ranking.better(low, high) else (high, low)))
            desk.promise(("one",))
            self.assertIs(desk.notes.fits(ranking), True)


class Walks(Case):
    def test_walks_and_told(self):
        rng = Random(13)
        for text in FEW + MANY:
            board = Board.read(text)
            for _ in range(3):
                ranking = Ranking(board, drawn_order(rng, board))
                walks = tuple(ranking.climb(rng.choice(board.settings)) for _ in range(3))
                rests = ranking.peaks()[:2]
                notes = from_walks(board, walks, rests)
                one_by_one = Notes(board)
                for worse, better in notes.facts:
                    one_by_one = one_by_one.told(worse, better)
                self.assertEqual(notes, one_by_one)
                self.assertEqual(Notes.read(str(notes)), notes)
                self.assertIs(notes.fits(ranking), True)
                self.assertLessEqual(set(rests), set(sure_peaks(notes)))
                for walk in walks:
                    self.assertIs(notes.known(walk[0], walk[-1]) in ("worse", "same"), True)
                    self.assertIsNotNone(sure_way(notes, walk[0], walk[-1]))

    def test_the_facts_of_notes_as_walks(self):
        for notes in some_notes(Random(14)):
            again = from_walks(notes.board, notes.facts, ())
            self.assertEqual(again.facts, tuple(sorted(notes.facts)))
            self.assertEqual(again.pairs(), notes.pairs())


class Promises(Case):
    def may_promise(self, desk, wish):
        try:
            desk.promise(wish)
        except Broken:
            return False
        desk.undo()
        return True

    def test_promises_and_certificates(self):
        rng = Random(15)
        for notes in some_notes(rng):
            desk, tops = Desk(notes), open_settings(notes)
            claim, paper = certify_one(notes)
            self.assertIs(accepts(claim, paper), True)
            self.assertEqual(self.may_promise(desk, ("one",)), claim[0] == "one")
            claim, paper = certify_smooth(notes)
            self.assertIs(accepts(claim, paper), True)
            self.assertEqual(self.may_promise(desk, ("smooth",)), claim[0] == "smooth")
            one, other = rng.sample(notes.board.settings, 2)
            claim, paper = certify_way(notes, one, other)
            self.assertEqual(self.may_promise(desk, ("rises", one, other)), claim[0] == "rises")
            self.assertEqual(self.may_promise(desk, ("open", one)), one in tops)
            self.assertEqual(
                [self.may_promise(desk, ("few", len(tops) + more)) for more in (-1, 0)],
                [False, True])
            self.assertEqual(desk.changes, 0)

    def test_all_promises_hold_after_each_change(self):
        rng = Random(16)
        changed = 0
        for text in FEW + MANY:
            board = Board.read(text)
            console = Console(drawn_notes(rng, board))
            desk = console.desk
            for _ in range(25):
                one, other = rng.choice(neighbour_pairs(board.settings))
                command = rng.choice([
                    f"tell {one} {other}", f"tell {other} {one}", "forget 0", "undo", "lift 0",
                    "promise one", "promise smooth", f"promise open {one}",
                    f"promise rises {one} {other}", f"promise few {len(board) // 2}"])
                before = desk.notes, desk.promises, desk.changes
                try:
                    console.say(command)
                    changed += 1
                except (ValueError, ArithmeticError):
                    self.assertEqual((desk.notes, desk.promises, desk.changes), before)
                twin = Desk(desk.notes)
                for wish in desk.promises:
                    twin.promise(wish)
                self.assertEqual(twin.promises, desk.promises)
        self.assertGreater(changed, 80)


if __name__ == "__main__":
    unittest.main()
