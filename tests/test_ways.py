"""Tests of switchhills.ways."""

import unittest
from itertools import permutations, product
from random import Random

from support import (
    AlwaysEqual, Case, FEW, MANY, NO_NOTES, NO_SETTINGS, all_places, better_ones, drawn_facts,
    drawn_notes, drawn_order, few_notes, fitting_orders, great_notes, has_ring, neighbour_pairs,
    neighbours, peaks_by_words,
)
from switchhills import ways as module
from switchhills.boards import Board
from switchhills.errors import NotNotes, UnknownSetting
from switchhills.notes import Notes
from switchhills.rankings import Ranking
from switchhills.ways import ends, may_way, starts, sure_way, way_ranking

SMALL = Board((2, 2))
SOME = Notes(SMALL, (("01", "00"), ("10", "00"), ("01", "11")))
OF_TWO = (sure_way, may_way)
OF_ONE = (ends, starts)


def lengths_by_words(order, start):
    """For each setting that a rising row leads to from the start, how few settings one has."""
    place = {setting: at for at, setting in enumerate(order)}
    found, last, many = {start: 1}, [start], 1
    while last:
        many += 1
        last = {near for setting in last for near in neighbours(setting, order)
                if place[near] > place[setting] and near not in found}
        found.update({setting: many for setting in last})
    return found


# For each order of each small board and each start: what rising rows lead to, and its peaks.
LENGTHS = {
    text: {order: {start: lengths_by_words(order, start) for start in order}
           for order, _ in all_places(Board.read(text).settings)}
    for text in FEW
}
PEAKS = {text: {order: peaks_by_words(order, sorted(order)) for order in LENGTHS[text]}
         for text in FEW}


def may_lengths(notes, orders):
    """For each start, for each goal of a rising row by one of these orders, its least length."""
    found = {}
    for start in notes.board.settings:
        found[start] = {}
        for order in orders:
            for goal, many in LENGTHS[str(notes.board)][order][start].items():
                found[start][goal] = min(many, found[start].get(goal, many))
    return found


def ends_by_orders(notes, start, orders):
    text = str(notes.board)
    return tuple(sorted({peak for order in orders for peak in PEAKS[text][order]
                         if peak in LENGTHS[text][order][start]}))


def rises_perhaps(row, over):
    """The words of [15]: none of the settings is known to be worse than one ahead of it."""
    return not any(ahead in over[setting]
                   for at, setting in enumerate(row) for ahead in row[:at])


def lengths_back(notes, goal):
    """For each start from which a row rises perhaps to the goal, how few settings it has: told
    from the goal on, with all sets of settings that such rows bar."""
    settings = notes.board.settings
    over = better_ones(settings, notes.facts)
    found, last, seen = {goal: 1}, {(goal, frozenset(over[goal]))}, {}
    many = 1
    while last:
        many += 1
        fresh = set()
        for setting, bar in last:
            for near in neighbours(setting, settings):
                more = bar | over[near]
                if near not in bar and not any(old <= more for old in seen.get(near, ())):
                    seen.setdefault(near, []).append(more)
                    found.setdefault(near, many)
                    fresh.add((near, more))
        last = fresh
    return found


def fact_lengths(notes, start):
    found, last, many = {start: 1}, {start}, 1
    while last:
        many += 1
        last = {better for worse, better in notes.facts if worse in last} - set(found)
        found.update({setting: many for setting in last})
    return found


class WayCase(Case):
    def check_sure(self, notes, start, goal, row, many):
        """The row is one of facts with so many settings, or None if many is None."""
        if many is None:
            self.assertIsNone(row)
            return
        self.tuple_of(str, row)
        self.assertEqual((row[0], row[-1], len(row)), (start, goal, many))
        for pair in zip(row, row[1:]):
            self.assertIn(pair, notes.facts)

    def check_may(self, notes, start, goal, row, many):
        """The row rises perhaps and has so many settings, or is None if many is None."""
        if many is None:
            self.assertIsNone(row)
            return
        self.tuple_of(str, row)
        self.assertEqual((row[0], row[-1], len(row)), (start, goal, many))
        steps = list(zip(row, row[1:]))
        for one, other in steps:
            self.assertIn(other, notes.board.beside(one))
        self.assertFalse(has_ring([*notes.facts, *steps]))

    def check_ranking(self, notes, row, can):
        """The notes tell a ranking by which the row rises exactly if there can be one."""
        ranking = way_ranking(notes, row)
        if not can:
            self.assertIsNone(ranking)
            return
        self.assertIs(type(ranking), Ranking)
        self.assertIs(ranking.board, notes.board)
        self.assertIs(notes.fits(ranking), True)
        for one, other in zip(row, row[1:]):
            self.assertIs(ranking.better(one, other), True)


class Example(unittest.TestCase):
    def test_the_example_of_the_document(self):
        some = Notes(Board((2, 2)), (("01", "00"), ("10", "00"), ("01", "11")))
        self.assertEqual(
            [sure_way(some, "01", "00"), sure_way(some, "01", "10"), may_way(some, "01", "10"),
             may_way(some, "00", "11"), ends(some, "01"), ends(some, "10"), ends(some, "00"),
             starts(some, "00")],
            [('01', '00'), None, ('01', '11', '10'), None, ('00', '11'), ('00', '11'), ('00',),
             ('00',)],
        )
        self.assertEqual(
            [way_ranking(some, ("01", "11", "10", "00")).order, way_ranking(some, ("00", "10")),
             starts(some.told("11", "10"), "00")],
            [('01', '11', '10', '00'), None, ('00', '01', '10', '11')],
        )

    def test_defined_in_the_module_itself(self):
        for call in (*OF_TWO, *OF_ONE, way_ranking):
            self.assertEqual(call.__module__, module.__name__)


class AllOrders(WayCase):
    """All boards of up to six settings, against all orders that fit."""

    def test_sure_ways(self):
        for notes in few_notes(Random(1), 30):
            orders = fitting_orders(notes)
            lengths = [LENGTHS[str(notes.board)][order] for order in orders]
            for start in notes.board.settings:
                by_facts = fact_lengths(notes, start)
                for goal in notes.board.settings:
                    row = sure_way(notes, start, goal)
                    self.assertIs(row is not None, all(goal in found[start] for found in lengths))
                    self.check_sure(notes, start, goal, row, by_facts.get(goal))

    def test_ways_that_rise_perhaps(self):
        for notes in few_notes(Random(2), 30):
            orders = fitting_orders(notes)
            lengths = may_lengths(notes, orders)
            for start, goal in product(notes.board.settings, repeat=2):
                row = may_way(notes, start, goal)
                self.check_may(notes, start, goal, row, lengths[start].get(goal))
                self.assertIs(goal in lengths_back(notes, goal), True)

    def test_rankings_for_all_rows_of_few_settings(self):
        for text in ("2", "3", "22"):
            board = Board.read(text)
            rows = [row for many in range(5) for row in product(board.settings, repeat=many)]
            rng = Random(3)
            for notes in [Notes(board), *[drawn_notes(rng, board) for _ in range(8)]]:
                self.check_rows(notes, rows)

    def test_rankings_for_drawn_rows(self):
        rng = Random(4)
        for notes in few_notes(rng, 20):
            settings = notes.board.settings
            rows = []
            for _ in range(20):
                row = [rng.choice(settings)]
                for _ in range(rng.randrange(1, 7)):
                    row.append(rng.choice(neighbours(row[-1], settings)))
                rows.append(tuple(row))
            self.check_rows(notes, rows)

    def check_rows(self, notes, rows):
        orders = set(fitting_orders(notes))
        places = [place for order, place in all_places(notes.board.settings) if order in orders]
        for row in rows:
            steps = list(zip(row, row[1:]))
            beside = len(row) > 1 and all(b in neighbours(a, notes.board.settings) for a, b in steps)
            can = beside and any(all(place[a] < place[b] for a, b in steps) for place in places)
            self.check_ranking(notes, row, can)

    def test_ends_and_starts(self):
        for notes in few_notes(Random(5), 40):
            orders = fitting_orders(notes)
            found = {start: ends_by_orders(notes, start, orders) for start in notes.board.settings}
            for setting in notes.board.settings:
                self.assertEqual(ends(notes, setting), found[setting])
                self.tuple_of(str, ends(notes, setting))
                alone = tuple(start for start in found if found[start] == (setting,))
                self.assertEqual(starts(notes, setting), alone)
                self.assertIs(type(starts(notes, setting)), tuple)


class GreatBoards(WayCase):
    def test_sure_ways(self):
        rng = Random(6)
        for notes in great_notes(rng, 8):
            over = better_ones(notes.board.settings, notes.facts)
            for _ in range(12):
                start = rng.choice(notes.board.settings)
                by_facts = fact_lengths(notes, start)
                for goal in rng.sample(notes.board.settings, 8):
                    row = sure_way(notes, start, goal)
                    self.assertIs(row is not None, goal == start or goal in over[start])
                    self.check_sure(notes, start, goal, row, by_facts.get(goal))

    def test_ways_that_rise_perhaps(self):
        rng = Random(7)
        seen = {True: 0, False: 0}
        for notes in great_notes(rng, 8):
            over = better_ones(notes.board.settings, notes.facts)
            for goal in rng.sample(notes.board.settings, 4):
                lengths = lengths_back(notes, goal)
                for start in notes.board.settings:
                    row = may_way(notes, start, goal)
                    self.check_may(notes, start, goal, row, lengths.get(start))
                    if row is None:
                        seen[start in over[goal]] += 1
                    else:
                        self.assertTrue(rises_perhaps(row, over))
        # No way both where the goal is known to be worse and where it is not.
        self.assertGreater(min(seen.values()), 100)

    def test_rankings_for_rows(self):
        rng = Random(8)
        seen = {True: 0, False: 0}
        for notes in great_notes(rng, 8):
            settings = notes.board.settings
            over = better_ones(settings, notes.facts)
            for _ in range(20):
                row = [rng.choice(settings)]
                for _ in range(rng.randrange(1, 5)):
                    more = [near for near in neighbours(row[-1], settings)
                            if rng.random() < 0.1 or row[-1] not in over[near]]
                    row.append(rng.choice(more or neighbours(row[-1], settings)))
                can = len(set(row)) == len(row) and rises_perhaps(row, over)
                # The words of [15] again: such a row rises by some ranking that fits.
                self.assertIs(can, not has_ring([*notes.facts, *zip(row, row[1:])]))
                self.check_ranking(notes, tuple(row), can)
                seen[can] += 1
        self.assertGreater(min(seen.values()), 200)

    def test_ends_and_starts(self):
        rng = Random(9)
        for notes in great_notes(rng, 5):
            settings = notes.board.settings
            over = better_ones(settings, notes.facts)
            tops = [setting for setting in settings if not over[setting]]
            lengths = {goal: lengths_back(notes, goal) for goal in tops}
            found = {start: tuple(goal for goal in tops if start in lengths[goal])
                     for start in settings}
            for start in rng.sample(settings, 5):
                self.assertEqual(ends(notes, start), found[start])
            for goal in [*rng.sample(settings, 2), *rng.sample(tops, min(2, len(tops)))]:
                alone = tuple(start for start in settings if found[start] == (goal,))
                self.assertEqual(starts(notes, goal), alone)

    def test_all_facts_of_an_order(self):
        rng = Random(10)
        for text in FEW + MANY:
            board = Board.read(text)
            order = drawn_order(rng, board)
            notes = Notes(board, drawn_facts(rng, order, len(neighbour_pairs(board.settings))))
            peaks = peaks_by_words(order, board.settings)
            lengths = {start: lengths_by_words(order, start) for start in board.settings}
            reached = {start: tuple(peak for peak in peaks if peak in lengths[start])
                       for start in board.settings}
            for start in rng.sample(board.settings, min(len(board), 6)):
                self.assertEqual(ends(notes, start), reached[start])
                for goal in rng.sample(board.settings, min(len(board), 6)):
                    many = lengths[start].get(goal)
                    self.check_sure(notes, start, goal, sure_way(notes, start, goal), many)
                    self.check_may(notes, start, goal, may_way(notes, start, goal), many)
            for goal in (order[-1], order[0], *peaks[:2]):
                self.assertEqual(
                    starts(notes, goal),
                    tuple(start for start in board.settings if reached[start] == (goal,)))

    def test_without_facts(self):
        for text in FEW + MANY:
            board = Board.read(text)
            notes = Notes(board)
            start, goal = board.settings[0], board.settings[-1]
            self.assertEqual(len(may_way(notes, start, goal)), len(text) + 1)
            self.assertIsNone(sure_way(notes, start, goal))
            self.assertEqual(ends(notes, start), board.settings)
            self.assertEqual(starts(notes, start), ())


class Rows(WayCase):
    def test_start_and_goal_the_same(self):
        rng = Random(11)
        for notes in [SOME, *great_notes(rng, 2)]:
            for setting in notes.board.settings:
                self.assertEqual(sure_way(notes, setting, setting), (setting,))
                self.assertEqual(may_way(notes, setting, setting), (setting,))

    def test_a_goal_that_is_known_to_be_worse(self):
        for start, goal in (("00", "01"), ("00", "10"), ("11", "01")):
            self.assertIsNone(sure_way(SOME, start, goal))
            self.assertIsNone(may_way(SOME, start, goal))
        notes = Notes(SMALL, (("00", "01"), ("01", "11")))
        self.assertIsNone(may_way(notes, "11", "00"))
        self.assertIsNone(sure_way(notes, "11", "00"))
        self.assertEqual(sure_way(notes, "00", "11"), ("00", "01", "11"))
        self.assertIn(may_way(notes, "00", "11"), [("00", "01", "11"), ("00", "10", "11")])

    def test_a_way_that_rises_perhaps_without_facts_on_it(self):
        # The row of facts is longer than the row that perhaps rises straight.
        notes = Notes(Board((3,)), (("0", "1"), ("1", "2")))
        self.assertEqual(sure_way(notes, "0", "2"), ("0", "1", "2"))
        self.assertEqual(may_way(notes, "0", "2"), ("0", "2"))
        self.assertEqual(notes.known("0", "2"), "worse")

    def test_a_row_of_steps_that_may_rise_each_for_itself(self):
        for text, facts, start, goal, many in DETOURS:
            notes = Notes(Board.read(text), facts)
            self.check_may(notes, start, goal, may_way(notes, start, goal), many)
            self.assertEqual(lengths_back(notes, goal).get(start), many)
            found, last = {start: 1}, [start]
            while last:
                setting = last.pop(0)
                for near in notes.board.beside(setting):
                    if near not in found and notes.known(near, setting) != "worse":
                        found[near] = found[setting] + 1
                        last.append(near)
            # By such steps the goal would be there, or there sooner.
            self.assertEqual(notes.known(start, goal), "open")
            if many is None or text == "33":
                self.assertTrue(many is None or found[goal] < many)

    def test_rows_with_a_setting_twice(self):
        notes = Notes(Board((2, 2)))
        for row in (("00", "00"), ("00", "01", "00"), ("00", "01", "11", "10", "00"),
                    ("00", "01", "11", "01"), ("00", "00", "01")):
            self.assertIsNone(way_ranking(notes, row))
        self.assertIsNone(way_ranking(Notes(Board((3,))), ("0", "1", "2", "0")))
        self.assertEqual(way_ranking(Notes(Board((3,))), ("2", "0", "1")).order, ("2", "0", "1"))

    def test_values_that_are_no_rows(self):
        notes = Notes(SMALL)
        values = [
            *[value for value in NO_SETTINGS if value != ("00", "01")], "00", (), ("00",),
            ["00", "01"], ("00", "11"), ("00", "01", "10"),
            ("00", "01", ["11"]), (["00"], "01"), ("00", None), (None, "00"), (None, None),
            ("00", AlwaysEqual()), (AlwaysEqual(), "00"), (AlwaysEqual(), AlwaysEqual()),
            ("00", b"01"), ("00", 1), (0, 1), (True, False), ("00", "01 "), ("00", "02"),
            ("20", "00"), ("0", "1"), ("000", "001"), (("00", "01"),), (("00", "01"), "11"),
            {"00": 1, "01": 2}, {"00", "01"}, "0001", ("00", "01", "11", "10", "20"), ("00", {}),
            (("00", "01"), ("01", "11")), way_ranking, SMALL, notes, notes.ranking(),
        ]
        for value in values:
            with self.subTest(repr(value)):
                self.assertIsNone(way_ranking(notes, value))
                self.assertIsNone(way_ranking(row=value, notes=SOME))

    def test_all_rows_of_different_settings_of_a_square(self):
        notes = Notes(SMALL)
        for many in (2, 3, 4):
            for row in permutations(SMALL.settings, many):
                can = all(b in neighbours(a, SMALL.settings) for a, b in zip(row, row[1:]))
                self.check_ranking(notes, row, can)


# Board, facts, start, goal, and how many settings the shortest row has that rises perhaps: where
# a setting on a shorter row is known to be worse than one ahead of it that is no neighbour, or
# where the first row to a setting bars the goal, and another one, perhaps a longer one, does not.
DETOURS = [
    ("32", (("21", "01"), ("11", "21"), ("10", "00")), "01", "10", None),
    ("222", (("010", "110"), ("010", "011"), ("000", "100")), "100", "010", None),
    ("33", (("00", "10"), ("20", "21"), ("22", "02"), ("20", "00")), "02", "20", None),
    ("33", (("12", "22"), ("10", "20"), ("11", "10"), ("00", "10")), "20", "12", 5),
    ("33", (("20", "00"), ("22", "12"), ("02", "00"), ("01", "00")), "00", "22", 5),
    ("232", (("100", "000"), ("100", "120"), ("021", "020"), ("110", "010")), "020", "100", 6),
    ("2222", (("1011", "1010"), ("1111", "1110"), ("0111", "0011"), ("1111", "0111"),
              ("1111", "1101")), "0110", "1111", 7),
    ("332", (("100", "200"), ("101", "111"), ("101", "001"), ("100", "110"), ("120", "020"),
             ("010", "011"), ("221", "211"), ("100", "000"), ("001", "201")), "010", "100", 5),
    ("22222", (("11110", "01110"), ("01000", "01001"), ("01000", "01100"), ("01100", "00100"),
               ("11000", "11100"), ("10101", "00101"), ("01110", "00110"), ("10110", "00110"),
               ("11101", "10101"), ("11011", "11111"), ("00010", "00110"), ("00001", "00000"),
               ("01011", "01111"), ("00011", "00010"), ("01001", "01101"), ("00110", "00100"),
               ("01111", "00111"), ("00000", "00100"), ("01111", "01101")), "00110", "01111", 7),
]


class OneSwitch(WayCase):
    def test_two_stands(self):
        notes = Notes(Board((2,)))
        self.assertEqual(may_way(notes, "0", "1"), ("0", "1"))
        self.assertIsNone(sure_way(notes, "0", "1"))
        self.assertEqual(ends(notes, "0"), ("0", "1"))
        self.assertEqual(starts(notes, "0"), ())
        notes = notes.told("0", "1")
        self.assertEqual(sure_way(notes, "0", "1"), ("0", "1"))
        self.assertIsNone(may_way(notes, "1", "0"))
        self.assertEqual((ends(notes, "0"), ends(notes, "1")), (("1",), ("1",)))
        self.assertEqual((starts(notes, "0"), starts(notes, "1")), ((), ("0", "1")))

    def test_three_stands(self):
        notes = Notes(Board((3,)), (("1", "0"),))
        self.assertEqual(ends(notes, "1"), ("0", "2"))
        self.assertEqual(ends(notes, "0"), ("0", "2"))
        self.assertEqual(starts(notes, "2"), ())
        notes = notes.told("0", "2")
        self.assertEqual(starts(notes, "2"), ("0", "1", "2"))
        self.assertEqual(way_ranking(notes, ("1", "2")).order, ("1", "0", "2"))
        self.assertIsNone(way_ranking(notes, ("2", "1")))


class Calls(WayCase):
    def test_by_name(self):
        self.assertEqual(sure_way(goal="00", start="01", notes=SOME), ("01", "00"))
        self.assertEqual(may_way(goal="10", notes=SOME, start="01"), ("01", "11", "10"))
        self.assertEqual(ends(start="10", notes=SOME), ("00", "11"))
        self.assertEqual(starts(goal="00", notes=SOME), ("00",))
        row = ("01", "11", "10", "00")
        self.assertEqual(way_ranking(row=row, notes=SOME).order, row)

    def test_the_same_answer_each_time(self):
        rng = Random(12)
        for notes in great_notes(rng, 2, MANY[:7]):
            again = Notes.read(str(notes))
            for _ in range(5):
                start, goal = rng.choice(notes.board.settings), rng.choice(notes.board.settings)
                for call in OF_TWO:
                    self.assertEqual(call(notes, start, goal), call(again, start, goal))
                self.assertEqual(ends(notes, start), ends(again, start))
                row = may_way(notes, start, goal)
                self.assertEqual(way_ranking(notes, row), way_ranking(again, row))
            self.assertEqual(starts(notes, start), starts(again, start))

    def test_nothing_changes(self):
        before = str(SOME), SOME.pairs(), SOME.ranking(), SMALL.settings
        for start, goal in product(SMALL.settings, repeat=2):
            sure_way(SOME, start, goal)
            may_way(SOME, start, goal)
            way_ranking(SOME, (start, goal))
            ends(SOME, start)
            starts(SOME, goal)
        self.assertEqual((str(SOME), SOME.pairs(), SOME.ranking(), SMALL.settings), before)


class WrongValues(Case):
    def test_no_notes(self):
        for value in NO_NOTES:
            with self.subTest(repr(value)):
                for call in OF_TWO:
                    self.refused(NotNotes, "given", value, call, value, "00", "01")
                    self.refused(NotNotes, "given", value, call, value, None, "wrong")
                    self.refused(NotNotes, "given", value, call, goal=1, start=[], notes=value)
                for call, name in ((ends, "start"), (starts, "goal")):
                    self.refused(NotNotes, "given", value, call, value, "00")
                    self.refused(NotNotes, "given", value, call, value, None)
                    self.refused(NotNotes, "given", value, call, **{name: 7, "notes": value})
                self.refused(NotNotes, "given", value, way_ranking, value, ("00", "01"))
                self.refused(NotNotes, "given", value, way_ranking, value, None)
                self.refused(NotNotes, "given", value, way_ranking, row=(), notes=value)

    def test_no_settings(self):
        before = str(SOME), SOME.pairs()
        for value in NO_SETTINGS:
            with self.subTest(repr(value)):
                for call in OF_TWO:
                    self.refused(UnknownSetting, "given", value, call, SOME, value, "00")
                    self.refused(UnknownSetting, "given", value, call, SOME, "00", value)
                    self.refused(UnknownSetting, "given", value, call, SOME, value, "wrong")
                    self.refused(UnknownSetting, "given", value, call, SOME, value, value)
                    self.refused(
                        UnknownSetting, "given", value, call, goal=value, start="00", notes=SOME)
                    self.refused(
                        UnknownSetting, "given", value, call, goal=None, start=value, notes=SOME)
                self.refused(UnknownSetting, "given", value, ends, SOME, value)
                self.refused(UnknownSetting, "given", value, ends, start=value, notes=SOME)
                self.refused(UnknownSetting, "given", value, starts, SOME, value)
                self.refused(UnknownSetting, "given", value, starts, goal=value, notes=SOME)
        self.assertEqual((str(SOME), SOME.pairs()), before)


if __name__ == "__main__":
    unittest.main()
