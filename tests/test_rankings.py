"""Tests of switchhills.rankings."""

import unittest
from itertools import permutations, product
from random import Random

from support import (
    ALL_SIZES, AlwaysEqual, Case, FEW, MANY, NO_BOARDS, NO_PARTS, NO_SETTINGS, NO_SQUARES,
    drawn_order, drawn_part, even_order, inside, kind_by_words, neighbours, parts_of,
    peaks_by_words,
)
from switchhills import rankings
from switchhills.boards import Board
from switchhills.errors import (
    InvalidOrder, InvalidPart, InvalidSquare, InvalidText, NotABoard, UnknownSetting,
)
from switchhills.notes import Notes
from switchhills.rankings import Ranking


def all_rankings(text):
    board = Board.read(text)
    return [Ranking(board, order) for order in permutations(board.settings)]


def few_rankings(rng, each):
    """All rankings of up to four settings, and drawn ones of greater boards."""
    for text in ("2", "3", "22"):
        yield from all_rankings(text)
    for text in FEW[3:] + MANY:
        board = Board.read(text)
        for _ in range(each):
            yield Ranking(board, drawn_order(rng, board))


def all_rising_rows(order, start):
    """All rising rows that begin with a setting, by the words of the document."""
    place = {setting: at for at, setting in enumerate(order)}
    rows, last = [], [(start,)]
    while last:
        rows.extend(last)
        last = [(*row, near) for row in last for near in neighbours(row[-1], order)
                if place[near] > place[row[-1]]]
    return rows


class Example(unittest.TestCase):
    def test_the_example_of_the_document(self):
        cube, broad = Board.read("222"), Board((3, 2))
        smooth = Ranking(cube, ("000", "001", "010", "100", "011", "101", "110", "111"))
        odd = Ranking(broad, ("01", "10", "11", "00", "20", "21"))
        self.assertEqual(
            [smooth.peaks(), smooth.helping("101"), smooth.climb("000"), smooth.smooth(),
             smooth.rising("000", "111"), smooth.better("011", "100"),
             smooth.peaks(("0", "01", "01"))],
            [('111',), (0, 1, 0), ('000', '100', '110', '111'), True, 6, False, ('011',)],
        )
        self.assertEqual(
            [odd.peaks(), odd.peaks(("01", "01")), odd.crossed(),
             odd.kind(("00", "01", "20", "21")), odd.kind(("10", "11", "20", "21")),
             odd.helping("00"), odd.short_way("01", "20"), odd.short_way("20", "01")],
            [('21',), ('00', '11'), (('00', '01', '10', '11'),), 'turned', 'plain', (1, 0),
             ('01', '00', '20'), None],
        )


class Making(Case):
    def test_by_position_and_by_name(self):
        for text in ("2", "32", "222"):
            board = Board.read(text)
            order = drawn_order(Random(text), board)
            for ranking in (Ranking(board, order), Ranking(board, order=order),
                            Ranking(order=order, board=board)):
                self.assertIs(type(ranking), Ranking)
                self.assertIs(ranking.board, board)
                self.assertIs(ranking.order, order)
                self.assertTrue(ranking)

    def test_properties_cannot_be_assigned(self):
        ranking = Ranking(Board((2,)), ("0", "1"))
        for name in ("board", "order"):
            with self.subTest(name), self.assertRaises(AttributeError):
                setattr(ranking, name, ("1", "0"))
        self.assertEqual(ranking, Ranking(Board((2,)), ("0", "1")))

    def test_defined_in_the_class_itself(self):
        for name in ("__init__", "__eq__", "board", "order", "better", "peaks", "helping", "climb",
                     "kind", "crossed", "smooth", "rising", "short_way"):
            self.assertIn(name, vars(Ranking))
        self.assertEqual(Ranking.__module__, rankings.__name__)

    def test_every_order_of_a_board(self):
        for text in FEW:
            for ranking in all_rankings(text):
                self.assertEqual(sorted(ranking.order), list(ranking.board.settings))


class WrongOrders(Case):
    def test_no_board(self):
        for value in NO_BOARDS:
            for order in (("00", "01", "10", "11"), (), None, ["00"], ("00", "00")):
                with self.subTest(repr(value)):
                    self.refused(NotABoard, "given", value, Ranking, value, order)
                    self.refused(NotABoard, "given", value, Ranking, order=order, board=value)

    def test_no_tuple(self):
        board = Board((2, 2))
        for order in (None, True, 4, "", "00", b"", [], ["00", "01", "10", "11"], {}, {"00"},
                      {"00": 1, "01": 2, "10": 3, "11": 4}, object(), AlwaysEqual(), board,
                      Ranking(board, ("00", "01", "10", "11")), Notes(board), tuple):
            with self.subTest(repr(order)):
                self.refused(InvalidOrder, "index", None, Ranking, board, order)
                self.refused(InvalidOrder, "index", None, Ranking, board=board, order=order)

    def test_the_first_wrong_element(self):
        board = Board((2, 2))
        for order, index in [
            ((), 0), (("00",), 1), (("11", "00"), 2), (("00", "10", "01"), 3),
            (("00", "00"), 1), (("00", "01", "00", "01"), 2), (("00", "01", "10", "10"), 3),
            (("00", "01", "10", "11", "00"), 4), (("00", "01", "10", "11", "12"), 4),
            (("00", "01", "10", "11", None, None), 4), (("02", "00", "01", "10"), 0),
            (("00", "01", "10", "11", "11", "11"), 4), (("00", "01", "12"), 2),
            (("00", "20", "00", "00"), 1), (("00", "00", "20", "00"), 1),
        ]:
            with self.subTest(repr(order)):
                self.refused(InvalidOrder, "index", index, Ranking, board, order)

    def test_elements_of_other_kinds(self):
        board = Board((2, 2))
        for value in NO_SETTINGS:
            with self.subTest(repr(value)):
                self.refused(InvalidOrder, "index", 0, Ranking, board, (value,))
                self.refused(InvalidOrder, "index", 2, Ranking, board, ("00", "01", value, "10"))
                self.refused(InvalidOrder, "index", 3, Ranking, board, ("00", "01", "10", value))
                self.refused(
                    InvalidOrder, "index", 4, Ranking, board, ("00", "01", "10", "11", value))

    def test_too_few(self):
        for sizes in ALL_SIZES:
            board = Board(sizes)
            for many in {0, 1, len(board) // 2, len(board) - 1}:
                self.refused(
                    InvalidOrder, "index", many, Ranking, board, board.settings[:many])

    def test_settings_of_another_board(self):
        self.refused(InvalidOrder, "index", 2, Ranking, Board((2, 2)), Board((2, 3)).settings)
        self.refused(InvalidOrder, "index", 4, Ranking, Board((2, 2)), Board((3, 2)).settings)
        self.refused(InvalidOrder, "index", 4, Ranking, Board((3, 2)), Board((2, 2)).settings)


class Equality(unittest.TestCase):
    def test_boards_and_orders(self):
        for one in all_rankings("22") + all_rankings("3"):
            for two in all_rankings("22") + all_rankings("3"):
                alike = one.order == two.order
                self.assertIs(one == two, alike)
                self.assertIs(one != two, not alike)
            self.assertIs(one == one, True)
            self.assertIs(one != one, False)

    def test_beside_values_of_other_classes(self):
        board = Board((2, 2))
        ranking = Ranking(board, board.settings)
        for other in [None, True, 0, 4, "00", str(board), b"", (), board.settings,
                      list(board.settings), (board, board.settings), {}, set(), object(), board,
                      Notes(board), Ranking, InvalidText("22")]:
            with self.subTest(repr(other)):
                self.assertIs(ranking == other, False)
                self.assertIs(other == ranking, False)
                self.assertIs(ranking != other, True)
                self.assertIs(other != ranking, True)

    def test_an_object_that_is_equal_to_all(self):
        ranking = Ranking(Board((2,)), ("0", "1"))
        self.assertIs(ranking == AlwaysEqual(), False)
        self.assertIs(ranking != AlwaysEqual(), True)


class Better(Case):
    def test_whether_the_goal_stands_behind_the_start(self):
        for ranking in few_rankings(Random(1), 2):
            for place, start in enumerate(ranking.order):
                for other, goal in enumerate(ranking.order):
                    self.assertIs(ranking.better(start, goal), other > place)

    def test_by_name(self):
        ranking = Ranking(Board((2,)), ("1", "0"))
        self.assertIs(ranking.better(start="1", goal="0"), True)
        self.assertIs(ranking.better(goal="1", start="0"), False)


class Peaks(Case):
    def test_of_each_part_of_few_settings(self):
        for text in FEW:
            parts = parts_of(text)
            for ranking in all_rankings(text):
                for part in parts:
                    found = ranking.peaks(part)
                    self.assertEqual(found, peaks_by_words(ranking.order, inside(part)))
                    self.tuple_of(str, found)

    def test_of_parts_of_greater_boards(self):
        rng = Random(2)
        for ranking in few_rankings(rng, 4):
            settings = ranking.board.settings
            for _ in range(5):
                part = drawn_part(rng, str(ranking.board))
                self.assertEqual(
                    ranking.peaks(part), peaks_by_words(ranking.order, inside(part)))
            whole = peaks_by_words(ranking.order, settings)
            self.assertEqual(ranking.peaks(), whole)
            self.assertEqual(ranking.peaks(None), whole)
            self.assertEqual(ranking.peaks(part=None), whole)
            self.assertEqual(ranking.peaks(part=ranking.board.whole), whole)
            self.assertGreaterEqual(len(whole), 1)

    def test_a_part_of_one_setting(self):
        ranking = Ranking(Board((3, 2)), ("01", "10", "11", "00", "20", "21"))
        for setting in ranking.board.settings:
            self.assertEqual(ranking.peaks(tuple(setting)), (setting,))

    def test_stands_that_are_left_out(self):
        ranking = Ranking(Board((3,)), ("0", "2", "1"))
        self.assertEqual(ranking.peaks(("02",)), ("2",))
        self.assertEqual(ranking.peaks(("012",)), ("1",))


class Helping(Case):
    def test_how_many_stands(self):
        for ranking in few_rankings(Random(3), 4):
            for setting in ranking.board.settings:
                wanted = [0] * len(setting)
                for near in neighbours(setting, ranking.board.settings):
                    if ranking.order.index(near) > ranking.order.index(setting):
                        wanted[[a != b for a, b in zip(near, setting)].index(True)] += 1
                self.assertEqual(ranking.helping(setting), tuple(wanted))
                self.tuple_of(int, ranking.helping(setting=setting))

    def test_two_stands_of_a_switch(self):
        ranking = Ranking(Board((3, 2)), ("00", "01", "10", "20", "21", "11"))
        self.assertEqual(ranking.helping("00"), (2, 1))
        self.assertEqual(ranking.helping("01"), (2, 0))
        self.assertEqual(ranking.helping("11"), (0, 0))

    def test_smooth_rankings_of_switches_with_two_stands(self):
        rng = Random(4)
        smooth = [ranking for ranking in all_rankings("22") if ranking.smooth()]
        for text in ("2", "222", "2222", "22222"):
            board = Board.read(text)
            smooth.extend(Ranking(board, even_order(rng, board)) for _ in range(4))
        cube = Board.read("222")
        drawn = [Ranking(cube, drawn_order(rng, cube)) for _ in range(300)]
        smooth.extend(ranking for ranking in drawn if ranking.smooth())
        self.assertGreater(len(smooth), 60)
        for ranking in smooth:
            self.assertTrue(ranking.smooth())
            settings = ranking.board.settings
            helping = {ranking.helping(setting) for setting in settings}
            self.assertEqual(helping, set(product((0, 1), repeat=len(settings[0]))))
            peak, = ranking.peaks()
            for setting in settings:
                self.assertEqual(
                    len(ranking.short_way(setting, peak)),
                    ranking.board.distance(setting, peak) + 1)


class Climbing(Case):
    def test_to_the_best_neighbour_each_time(self):
        for ranking in few_rankings(Random(5), 4):
            place = {setting: at for at, setting in enumerate(ranking.order)}
            for start in ranking.board.settings:
                row = [start]
                while True:
                    best = max(neighbours(row[-1], ranking.order), key=place.get)
                    if place[best] < place[row[-1]]:
                        break
                    row.append(best)
                self.assertEqual(ranking.climb(start), tuple(row))
                self.assertEqual(ranking.climb(start=start), tuple(row))
                self.assertIn(row[-1], ranking.peaks())

    def test_not_to_the_first_neighbour_that_is_better(self):
        ranking = Ranking(Board((2, 2)), ("00", "01", "10", "11"))
        self.assertEqual(ranking.climb("00"), ("00", "10", "11"))
        ranking = Ranking(Board((3,)), ("0", "2", "1"))
        self.assertEqual(ranking.climb("0"), ("0", "1"))


class Squares(Case):
    def test_kinds(self):
        for ranking in few_rankings(Random(6), 6):
            for square in ranking.board.squares():
                wanted = kind_by_words(ranking.order, square)
                self.assertEqual(ranking.kind(square), wanted)
                self.assertEqual(ranking.kind(square=square), wanted)

    def test_all_orders_of_one_square(self):
        found = {"crossed": 0, "plain": 0, "turned": 0}
        square = ("00", "01", "10", "11")
        for ranking in all_rankings("22"):
            found[ranking.kind(square)] += 1
            self.assertEqual(ranking.smooth(), ranking.kind(square) != "crossed")
        self.assertEqual(found, {"crossed": 8, "plain": 8, "turned": 8})

    def test_crossed_and_smooth(self):
        for ranking in few_rankings(Random(7), 6):
            wanted = tuple(square for square in ranking.board.squares()
                           if kind_by_words(ranking.order, square) == "crossed")
            self.assertEqual(ranking.crossed(), wanted)
            self.tuple_of(tuple, ranking.crossed())
            self.assertIs(ranking.smooth(), wanted == ())

    def test_smooth_exactly_if_each_part_has_one_peak(self):
        for text in FEW + ("222",):
            rankings_of_it = all_rankings(text) if text in FEW else [
                Ranking(Board.read(text), drawn_order(rng, Board.read(text)))
                for rng in [Random(8)] for _ in range(200)]
            for ranking in rankings_of_it:
                one = all(len(ranking.peaks(part)) == 1 for part in parts_of(text))
                self.assertIs(ranking.smooth(), one)

    def test_smooth_rankings_of_great_boards(self):
        rng = Random(9)
        for text in MANY:
            board = Board.read(text)
            ranking = Ranking(board, even_order(rng, board))
            self.assertIs(ranking.smooth(), True)
            self.assertEqual(ranking.crossed(), ())
            for _ in range(20):
                self.assertEqual(len(ranking.peaks(drawn_part(rng, text))), 1)

    def test_boards_of_one_switch(self):
        for ranking in all_rankings("2") + all_rankings("3"):
            self.assertIs(ranking.smooth(), True)
            self.assertEqual(ranking.crossed(), ())
            self.assertEqual(len(ranking.peaks()), 1)


class RisingRows(Case):
    def test_against_all_rows(self):
        rng = Random(10)
        chosen = [ranking for ranking in few_rankings(rng, 4) if len(ranking.board) <= 16]
        for ranking in chosen:
            for start in rng.sample(ranking.order, min(4, len(ranking.order))):
                rows = all_rising_rows(ranking.order, start)
                for goal in ranking.order:
                    right = [row for row in rows if row[-1] == goal]
                    self.assertEqual(ranking.rising(start, goal), len(right))
                    found = ranking.short_way(start, goal)
                    if not right:
                        self.assertIsNone(found)
                    else:
                        self.assertIn(found, right)
                        self.assertEqual(len(found), min(map(len, right)))
                        self.tuple_of(str, found)

    def test_great_boards(self):
        # From the worst to the best one of an even order each way of fewest steps rises.
        for text, many in (("22222", 120), ("2222", 24), ("32222", 240)):
            board = Board.read(text)
            order = tuple(sorted(board.settings, key=lambda s: sum(map(int, s))))
            ranking = Ranking(board, order)
            start, goal = board.settings[0], board.settings[-1]
            self.assertEqual(len(ranking.short_way(start, goal)), len(text) + 1)
            if text != "32222":
                self.assertEqual(ranking.rising(start, goal), many)
            else:
                # The first switch is turned at once, or by two steps: 5! and 6! / 2 rows.
                self.assertEqual(ranking.rising(start, goal), 120 + 360)
            self.assertEqual(ranking.rising(goal, start), 0)
            self.assertIsNone(ranking.short_way(goal, start))

    def test_the_same_setting(self):
        for ranking in few_rankings(Random(11), 1):
            for setting in ranking.order:
                self.assertEqual(ranking.rising(setting, setting), 1)
                self.assertEqual(ranking.short_way(setting, setting), (setting,))

    def test_by_name(self):
        ranking = Ranking(Board((3,)), ("0", "2", "1"))
        self.assertEqual(ranking.rising(start="0", goal="1"), 2)
        self.assertEqual(ranking.rising(goal="0", start="1"), 0)
        self.assertEqual(ranking.short_way(start="0", goal="1"), ("0", "1"))
        self.assertIsNone(ranking.short_way(goal="0", start="1"))

    def test_better_and_yet_no_row(self):
        ranking = Ranking(Board((2, 2)), ("01", "10", "00", "11"))
        self.assertEqual(ranking.rising("00", "11"), 0)
        self.assertIsNone(ranking.short_way("00", "11"))
        self.assertEqual(ranking.rising("01", "10"), 0)
        self.assertIsNone(ranking.short_way("01", "10"))

    def test_a_way_longer_than_the_distance(self):
        ranking = Ranking(Board((2, 2)), ("00", "10", "11", "01"))
        self.assertEqual(ranking.short_way("00", "01"), ("00", "01"))
        ranking = Ranking(Board((2, 2, 2)), ("000", "100", "101", "111", "011", "001", "010", "110"))
        self.assertEqual(ranking.rising("000", "011"), 1)
        self.assertEqual(ranking.short_way("000", "011"), ("000", "100", "101", "111", "011"))

    def test_the_same_answer_each_time(self):
        for ranking in few_rankings(Random(12), 2):
            again = Ranking(Board(ranking.board.sizes), tuple(list(ranking.order)))
            start, goal = ranking.order[0], ranking.order[-1]
            self.assertEqual(ranking.short_way(start, goal), ranking.short_way(start, goal))
            self.assertEqual(ranking.short_way(start, goal), again.short_way(start, goal))


class WrongValues(Case):
    def setUp(self):
        self.ranking = Ranking(Board((2, 2)), ("01", "10", "11", "00"))
        self.before = self.state(self.ranking)

    def tearDown(self):
        self.assertEqual(self.state(self.ranking), self.before)

    def state(self, ranking):
        settings = ranking.board.settings
        return (
            ranking.board, ranking.order, ranking.peaks(), ranking.crossed(), ranking.smooth(),
            [ranking.helping(one) for one in settings], [ranking.climb(one) for one in settings],
            [(ranking.better(one, two), ranking.rising(one, two), ranking.short_way(one, two))
             for one in settings for two in settings],
        )

    def test_one_setting(self):
        for value in NO_SETTINGS:
            with self.subTest(repr(value)):
                self.refused(UnknownSetting, "given", value, self.ranking.helping, value)
                self.refused(UnknownSetting, "given", value, self.ranking.helping, setting=value)
                self.refused(UnknownSetting, "given", value, self.ranking.climb, value)
                self.refused(UnknownSetting, "given", value, self.ranking.climb, start=value)

    def test_start_and_goal(self):
        for call in (self.ranking.better, self.ranking.rising, self.ranking.short_way):
            for value in NO_SETTINGS:
                with self.subTest(repr(value)):
                    self.refused(UnknownSetting, "given", value, call, value, "00")
                    self.refused(UnknownSetting, "given", value, call, "00", value)
                    self.refused(UnknownSetting, "given", value, call, value, value)
                    self.refused(UnknownSetting, "given", value, call, goal="00", start=value)
                    self.refused(UnknownSetting, "given", value, call, goal=value, start="00")
            for first, second in [("20", "02"), ("02", "20"), (None, []), ([], None), ("", ())]:
                self.refused(UnknownSetting, "given", first, call, first, second)
                self.refused(UnknownSetting, "given", first, call, goal=second, start=first)

    def test_parts(self):
        for value in NO_PARTS:
            with self.subTest(repr(value)):
                self.refused(InvalidPart, "given", value, self.ranking.peaks, value)
                self.refused(InvalidPart, "given", value, self.ranking.peaks, part=value)

    def test_squares(self):
        ranking = Ranking(Board((3, 2)), ("01", "10", "11", "00", "20", "21"))
        before = self.state(ranking)
        for value in NO_SQUARES:
            with self.subTest(repr(value)):
                self.refused(InvalidSquare, "given", value, ranking.kind, value)
                self.refused(InvalidSquare, "given", value, ranking.kind, square=value)
        self.assertEqual(self.state(ranking), before)

    def test_all_fours_of_settings(self):
        for text in ("32", "222"):
            board = Board.read(text)
            ranking = Ranking(board, board.settings)
            squares = set(board.squares())
            for four in product(board.settings, repeat=4):
                if four in squares:
                    self.assertIn(ranking.kind(four), ("crossed", "plain", "turned"))
                else:
                    self.refused(InvalidSquare, "given", four, ranking.kind, four)

    def test_squares_of_other_boards(self):
        small = Ranking(Board((2,)), ("0", "1"))
        for value in [("00", "01", "10", "11"), ("0", "1", "0", "1"), ("0", "0", "1", "1"), ()]:
            self.refused(InvalidSquare, "given", value, small.kind, value)
        value = ("10", "11", "20", "21")
        self.refused(InvalidSquare, "given", value, self.ranking.kind, value)
        wide = Ranking(Board((3, 3)), Board((3, 3)).settings)
        self.assertEqual(wide.kind(("10", "12", "20", "22")), "plain")
        for value in [("00", "01", "02", "10"), ("00", "01", "11", "12"), ("00", "02", "10", "11")]:
            self.refused(InvalidSquare, "given", value, wide.kind, value)


if __name__ == "__main__":
    unittest.main()
