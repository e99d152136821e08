"""Tests of switchhills.walks."""

import unittest
from random import Random

from support import (
    ALL_SIZES, AlwaysEqual, Case, FEW, MANY, NO_BOARDS, NO_SETTINGS, drawn_order, has_ring,
    neighbours, peaks_by_words,
)
from switchhills import walks as module
from switchhills.boards import Board
from switchhills.errors import InvalidRests, InvalidWalks, NotABoard
from switchhills.notes import Notes
from switchhills.rankings import Ranking
from switchhills.walks import from_walks

SMALL, CUBE = Board((2, 2)), Board.read("222")

NO_TUPLES = (
    None, True, False, 0, 1, "", "00", b"", b"00", [], ["00"], [("00", "01")], {}, {"00": 1},
    {"00"}, frozenset(), object(), AlwaysEqual(), SMALL, Notes(SMALL), tuple,
    Ranking(SMALL, SMALL.settings), [[("00",)]],
)


def drawn_rise(rng, order):
    """A rising row by an order, with a start that is drawn, and where it ends perhaps a peak."""
    place = {setting: at for at, setting in enumerate(order)}
    row = [rng.choice(order)]
    while rng.random() < 0.8:
        better = [near for near in neighbours(row[-1], order) if place[near] > place[row[-1]]]
        if not better:
            break
        row.append(rng.choice(better))
    return tuple(row)


def drawn_row(rng, board):
    """A row of neighbours, whatever was seen."""
    row = [rng.choice(board.settings)]
    for _ in range(rng.randrange(4)):
        row.append(rng.choice(neighbours(row[-1], board.settings)))
    return tuple(row)


def walk_facts(walk):
    return list(zip(walk, walk[1:]))


def rest_facts(board, rest):
    return [(near, rest) for near in neighbours(rest, board.settings)]


def told_by_words(board, walks, rests):
    """The facts of walks and rests, or which one of them is the first to close a ring."""
    facts = []
    for index, walk in enumerate(walks):
        facts.extend(walk_facts(walk))
        if has_ring(facts):
            return InvalidWalks, index
    for index, rest in enumerate(rests):
        facts.extend(rest_facts(board, rest))
        if has_ring(facts):
            return InvalidRests, index
    return None, tuple(sorted(set(facts)))


class WalkCase(Case):
    def check(self, board, walks, rests):
        error, told = told_by_words(board, walks, rests)
        if error is not None:
            self.refused(error, "index", told, from_walks, board, walks, rests)
            return False
        notes = from_walks(board, walks, rests)
        self.assertIs(type(notes), Notes)
        self.assertIs(notes.board, board)
        self.assertEqual(notes.facts, told)
        self.tuple_of(tuple, notes.facts)
        return True


class Example(Case):
    def test_the_example_of_the_document(self):
        small, cube = Board((2, 2)), Board.read("222")
        self.assertEqual(
            [from_walks(small, (("01", "00"), ("01", "11")), ("00",)).facts,
             len(from_walks(cube, (), ("000", "111"))), from_walks(small, (("10",),), ()).facts],
            [(('01', '00'), ('01', '11'), ('10', '00')), 6, ()],
        )
        self.refused(
            InvalidRests, "index", 1, from_walks, small, (("01", "00", "10"),), ("11", "01"))

    def test_defined_in_the_module_itself(self):
        self.assertEqual(from_walks.__module__, module.__name__)


class Drawn(WalkCase):
    def test_what_was_seen_by_an_order(self):
        rng = Random(1)
        for text in FEW + MANY:
            board = Board.read(text)
            for _ in range(8):
                order = drawn_order(rng, board)
                peaks = peaks_by_words(order, board.settings)
                walks = tuple(drawn_rise(rng, order) for _ in range(rng.randrange(8)))
                rests = tuple(rng.choice(peaks) for _ in range(rng.randrange(4)))
                self.assertTrue(self.check(board, walks, rests))
                self.assertIs(from_walks(board, walks, rests).fits(Ranking(board, order)), True)

    def test_rows_and_rests_of_any_settings(self):
        rng = Random(2)
        seen = {True: 0, False: 0}
        for text in FEW + MANY:
            board = Board.read(text)
            for _ in range(40):
                walks = tuple(drawn_row(rng, board) for _ in range(rng.randrange(6)))
                rests = tuple(rng.choice(board.settings) for _ in range(rng.randrange(3)))
                seen[self.check(board, walks, rests)] += 1
        self.assertGreater(min(seen.values()), 100)

    def test_rising_rows_with_one_that_is_bent(self):
        rng = Random(3)
        seen = {True: 0, False: 0}
        for text in FEW + MANY:
            board = Board.read(text)
            for _ in range(20):
                order = drawn_order(rng, board)
                walks = [drawn_rise(rng, order) for _ in range(rng.randrange(1, 12))]
                at = rng.randrange(len(walks))
                walks[at] = walks[at][::-1]
                rests = tuple(rng.sample(peaks_by_words(order, board.settings), 1))
                seen[self.check(board, tuple(walks), rests)] += 1
        self.assertGreater(min(seen.values()), 40)


class Edges(WalkCase):
    def test_no_walks_and_no_rests(self):
        for sizes in ALL_SIZES:
            board = Board(sizes)
            notes = from_walks(board, (), ())
            self.assertEqual((notes.facts, len(notes)), ((), 0))
            self.assertIs(notes.board, board)

    def test_walks_of_one_setting(self):
        for setting in SMALL.settings:
            self.assertEqual(from_walks(SMALL, ((setting,),), ()).facts, ())
        self.assertEqual(
            from_walks(SMALL, (("00",), ("00",), ("01", "00"), ("11",)), ()).facts, (("01", "00"),))

    def test_the_same_fact_twice(self):
        once = (("01", "00"),)
        self.assertEqual(from_walks(SMALL, (("01", "00"), ("01", "00")), ()).facts, once)
        walks = (("11", "01", "00"), ("01", "00"), ("11", "01"))
        self.assertEqual(from_walks(SMALL, walks, ()).facts, (("01", "00"), ("11", "01")))
        peak = (("01", "00"), ("10", "00"))
        self.assertEqual(from_walks(SMALL, (("01", "00"),), ("00",)).facts, peak)
        self.assertEqual(from_walks(SMALL, (), ("00", "00")).facts, peak)

    def test_ascending(self):
        walks = (("11", "10"), ("01", "11"), ("00", "10"))
        facts = (("00", "10"), ("01", "11"), ("11", "10"))
        self.assertEqual(from_walks(SMALL, walks, ()).facts, facts)
        self.assertEqual(from_walks(SMALL, walks[::-1], ("10",)).facts, facts)

    def test_facts_that_are_known_by_others(self):
        # A row of others tells 0 < 2, but it was seen, too.
        board = Board((3,))
        self.assertEqual(
            from_walks(board, (("0", "1", "2"), ("0", "2")), ()).facts,
            (("0", "1"), ("0", "2"), ("1", "2")))
        self.assertEqual(
            from_walks(board, (("0", "1", "2"),), ("2",)).facts,
            (("0", "1"), ("0", "2"), ("1", "2")))
        self.assertEqual(
            from_walks(board, (("0", "1", "2"),), ()).facts, (("0", "1"), ("1", "2")))

    def test_one_switch(self):
        board = Board((2,))
        self.assertEqual(from_walks(board, (("1", "0"),), ("0",)).facts, (("1", "0"),))
        self.refused(InvalidRests, "index", 0, from_walks, board, (("1", "0"),), ("1",))
        self.refused(InvalidWalks, "index", 1, from_walks, board, (("1", "0"), ("0", "1")), ())

    def test_two_rests_that_are_neighbours(self):
        self.refused(InvalidRests, "index", 1, from_walks, SMALL, (), ("00", "01"))
        self.refused(InvalidRests, "index", 2, from_walks, SMALL, (), ("00", "11", "01"))
        self.refused(InvalidRests, "index", 2, from_walks, CUBE, (), ("000", "111", "110", "000"))
        self.refused(InvalidRests, "index", 1, from_walks, Board((3,)), (), ("0", "2"))

    def test_a_walk_that_closes_a_ring(self):
        for walks, index in [
            ((("00", "01", "00"),), 0), ((("00", "01", "11", "10", "00"),), 0),
            ((("00",), ("00", "01"), ("01", "00")), 2), ((("00", "01", "11"), ("11", "10", "00")), 1),
            ((("00", "01"), ("01", "11"), ("11", "10"), ("10", "00"), ("00",)), 3),
            ((("00", "01"), ("11", "10"), ("01", "11", "01"), ("10", "00")), 2),
        ]:
            with self.subTest(walks):
                self.refused(InvalidWalks, "index", index, from_walks, SMALL, walks, ())
                # The walks come ahead of the rests.
                self.refused(InvalidWalks, "index", index, from_walks, SMALL, walks, None)
                self.refused(InvalidWalks, "index", index, from_walks, SMALL, walks, ("00", "01"))
                self.refused(
                    InvalidWalks, "index", index, from_walks, rests=("2",), walks=walks, board=SMALL)

    def test_a_rest_that_closes_a_ring(self):
        for walks, rests, index in [
            ((("00", "01"),), ("00",), 0), ((("00", "01"),), ("01", "10", "00"), 2),
            ((("00", "01", "11"),), ("11", "01"), 1), ((("00", "01", "11"),), ("10",), None),
            ((("10", "11"),), ("00", "10"), 1), ((("00",),), ("00", "11"), None),
            ((("00", "01"), ("01", "11"), ("00", "10")), ("01",), 0),
        ]:
            with self.subTest((walks, rests)):
                if index is None:
                    self.assertTrue(self.check(SMALL, walks, rests))
                else:
                    self.refused(InvalidRests, "index", index, from_walks, SMALL, walks, rests)
                    self.refused(
                        InvalidRests, "index", index, from_walks,
                        rests=rests, board=SMALL, walks=walks)


class Calls(WalkCase):
    def test_by_name(self):
        notes = from_walks(rests=("00",), walks=(("01", "11"),), board=SMALL)
        self.assertEqual(str(notes), "board 22\n01 < 00\n01 < 11\n10 < 00")
        self.assertEqual(from_walks(SMALL, rests=(), walks=()).facts, ())

    def test_the_same_answer_each_time_and_nothing_changes(self):
        walks, rests = (("01", "11"), ("10", "11")), ("00",)
        first = from_walks(SMALL, walks, rests)
        self.assertEqual(from_walks(Board.read("22"), walks, rests), first)
        self.assertEqual((walks, rests), ((("01", "11"), ("10", "11")), ("00",)))
        self.assertEqual(SMALL.settings, ("00", "01", "10", "11"))


class WrongValues(Case):
    def test_no_board(self):
        for value in NO_BOARDS:
            with self.subTest(repr(value)):
                self.refused(NotABoard, "given", value, from_walks, value, (), ())
                self.refused(NotABoard, "given", value, from_walks, value, None, ("wrong",))
                self.refused(
                    NotABoard, "given", value, from_walks, rests=0, walks=[], board=value)

    def test_no_tuples(self):
        for value in NO_TUPLES:
            with self.subTest(repr(value)):
                self.refused(InvalidWalks, "index", None, from_walks, SMALL, value, ())
                self.refused(InvalidWalks, "index", None, from_walks, SMALL, value, value)
                self.refused(
                    InvalidWalks, "index", None, from_walks, rests=("2",), walks=value, board=SMALL)
                self.refused(InvalidRests, "index", None, from_walks, SMALL, (), value)
                self.refused(InvalidRests, "index", None, from_walks, SMALL, (("00",),), value)
                self.refused(
                    InvalidRests, "index", None, from_walks, rests=value, walks=(), board=SMALL)
                # A wrong walk comes ahead of what are no rests at all.
                self.refused(InvalidWalks, "index", 0, from_walks, SMALL, ("00",), value)

    def test_the_first_wrong_walk(self):
        values = [
            *[value for value in NO_SETTINGS if value not in ((("00", "01")), ("00",))],
            *NO_TUPLES, (), "00", ("00", "11"), ("00", "00"), ("00", "01", "10"), ("20",), ("0",),
            ("00", "02"), ("00", None), (None,), (["00"],), ("00", ["01"]), ("00", AlwaysEqual()),
            (AlwaysEqual(),), (0,), (True, False), ("000", "001"), (("00", "01"),), ["00", "01"],
            ("00", "01", "11", "01 "), ("01", b"11"), (("00",), ("01",)), ("00", "01", "11", "11"),
        ]
        for value in values:
            with self.subTest(repr(value)):
                for front in ((), (("00",),), (("00", "01"), ("01", "11"))):
                    walks = (*front, value, None, ("00", "11"))
                    self.refused(
                        InvalidWalks, "index", len(front), from_walks, SMALL, walks, ("00", "01"))
                    self.refused(
                        InvalidWalks, "index", len(front), from_walks, SMALL, walks[:-2], ())

    def test_the_first_wrong_rest(self):
        for value in NO_SETTINGS:
            with self.subTest(repr(value)):
                for front in ((), ("00",), ("00", "11")):
                    self.refused(
                        InvalidRests, "index", len(front), from_walks, SMALL, (),
                        (*front, value, None))
                    self.refused(
                        InvalidRests, "index", len(front), from_walks, SMALL, (("01", "00"),),
                        (*front, value, "01"))
                self.refused(
                    InvalidRests, "index", 1, from_walks, SMALL, (), ("00", "01", value))

    def test_a_ring_ahead_of_a_wrong_walk_and_behind(self):
        ring = ("00", "01", "00")
        self.refused(InvalidWalks, "index", 0, from_walks, SMALL, (ring, ("00", "11")), ())
        self.refused(InvalidWalks, "index", 0, from_walks, SMALL, (("00", "11"), ring), ())
        self.refused(InvalidWalks, "index", 1, from_walks, SMALL, (("00",), ring, None), ())


if __name__ == "__main__":
    unittest.main()
