"""Tests of switchhills.boards."""

import unittest
from itertools import combinations, product

from support import ALL_SIZES, AlwaysEqual, Case, NO_STRINGS, apart, is_square, settings_by_product
from switchhills import boards
from switchhills.boards import Board
from switchhills.errors import InvalidPart, InvalidSizes, InvalidText, UnknownSetting


class Example(unittest.TestCase):
    def test_the_example_of_the_document(self):
        small, cube, broad = Board((2, 2)), Board.read("222"), Board((3, 2))
        self.assertEqual(
            [small.settings, len(cube), broad.beside("00"), cube.distance("000", "101"),
             broad.inside(("02", "1")), broad.whole, small.squares(), len(cube.squares()),
             broad.squares()[2]],
            [('00', '01', '10', '11'), 8, ('01', '10', '20'), 2, ('01', '21'), ('012', '01'),
             (('00', '01', '10', '11'),), 6, ('10', '11', '20', '21')],
        )


class Making(Case):
    def test_all_boards_that_there_are(self):
        self.assertEqual(len(ALL_SIZES), 31)
        for sizes in ALL_SIZES:
            text = "".join(map(str, sizes))
            for board in (Board(sizes), Board(sizes=sizes), Board.read(text), Board.read(text=text)):
                with self.subTest(text):
                    self.assertIs(type(board), Board)
                    self.assertEqual(board.sizes, sizes)
                    self.assertEqual(str(board), text)
                    self.assertEqual(board.settings, settings_by_product(sizes))
                    self.assertEqual(len(board), len(board.settings))
                    self.assertEqual(board.whole, tuple("012"[:size] for size in sizes))
                    self.assertTrue(board)

    def test_the_least_and_the_greatest_board(self):
        self.assertEqual(Board((2,)).settings, ("0", "1"))
        self.assertEqual(len(Board((3, 2, 2, 2, 2))), 48)
        self.assertEqual(len(Board((2, 2, 2, 2, 3))), 48)
        self.assertEqual(len(Board((2, 2, 2, 2, 2))), 32)

    def test_the_sizes_are_as_they_were_passed(self):
        sizes = (3, 2)
        self.assertIs(Board(sizes).sizes, sizes)

    def test_tuples_of_strings(self):
        board = Board((3, 2))
        for value in (board.settings, board.whole, board.beside("00"), board.inside(board.whole)):
            self.assertIs(type(value), tuple)
            self.assertEqual({type(element) for element in value}, {str})
        self.assertIs(type(board.squares()), tuple)
        self.assertEqual({type(square) for square in board.squares()}, {tuple})

    def test_properties_cannot_be_assigned(self):
        board = Board((3, 2))
        for name in ("sizes", "settings", "whole"):
            with self.subTest(name), self.assertRaises(AttributeError):
                setattr(board, name, ())
        self.assertEqual((board.sizes, len(board.settings), len(board.whole)), ((3, 2), 6, 2))

    def test_defined_in_the_class_itself(self):
        for name in ("read", "sizes", "settings", "whole", "beside", "distance", "inside",
                     "squares", "__init__", "__len__", "__str__", "__contains__", "__eq__"):
            self.assertIn(name, vars(Board))
        self.assertEqual(Board.__module__, boards.__name__)


class WrongSizes(Case):
    def test_no_tuple_and_the_empty_tuple(self):
        for sizes in (None, True, 2, 22, "", "22", b"22", [], [2, 2], {2: 2}, {2}, range(2, 4),
                      object(), Board((2, 2)), ()):
            with self.subTest(repr(sizes)):
                self.refused(InvalidSizes, "index", None, Board, sizes)
                self.refused(InvalidSizes, "index", None, Board, sizes=sizes)

    def test_the_first_wrong_one(self):
        for sizes, index in [
            ((1,), 0), ((4,), 0), ((0,), 0), ((-2,), 0), ((True,), 0), ((False,), 0), ((2, 1), 1),
            ((2, 4, 4), 1), ((2, True), 1), ((2, 3, False), 2), ((2, 2, 2, 2, 4), 4),
            ((2, "2"), 1), ((2, None), 1), ((2, (2,)), 1), (([2], 2), 0), ((2, b"2"), 1),
            ((2, {}), 1), ((2, {2}), 1), ((2, Board((2,))), 1), ((2, AlwaysEqual()), 1),
            ((2, 10 ** 40), 1), ((4, True, None), 0),
        ]:
            with self.subTest(repr(sizes)):
                self.refused(InvalidSizes, "index", index, Board, sizes)

    def test_the_sixth_one(self):
        for last in (2, 3, 1, True, None, "2", [2]):
            self.refused(InvalidSizes, "index", 5, Board, (2, 2, 2, 2, 2, last))
            self.refused(InvalidSizes, "index", 5, Board, (3, 2, 2, 2, 2, last, 2, 7))

    def test_more_settings_than_there_may_be(self):
        for sizes, index in [
            ((3, 3, 3, 2), 3), ((3, 3, 3, 3), 3), ((2, 3, 3, 3), 3), ((3, 3, 2, 2, 2), 4),
            ((2, 2, 2, 3, 3), 4), ((2, 2, 3, 3, 2, 2), 4), ((3, 3, 3, 3, 4, None), 3),
            ((3, 3, 3, 4), 3), ((3, 3, 2, 2, 2, 2), 4),
        ]:
            with self.subTest(repr(sizes)):
                self.refused(InvalidSizes, "index", index, Board, sizes)

    def test_all_tuples_of_small_numbers(self):
        for many in range(1, 7):
            for sizes in product((1, 2, 3), repeat=many):
                index = next((at for at in range(many) if sizes[:at + 1] not in ALL_SIZES), None)
                if index is None:
                    self.assertEqual(Board(sizes).sizes, sizes)
                else:
                    self.refused(InvalidSizes, "index", index, Board, sizes)

    def test_what_is_passed_stays_as_it_was(self):
        sizes = [2, 2]
        self.refused(InvalidSizes, "index", None, Board, sizes)
        self.assertEqual(sizes, [2, 2])


class WrongTexts(Case):
    def test_other_strings(self):
        for text in ("", "1", "4", "0", "21", "24", "2 2", " 22", "22 ", "22\n", "\n22", "2\n2",
                     "222222", "322222", "33222", "3332", "2222222", "board 22", "(2, 2)", "2,2",
                     "-2", "+2", "2_2", "a", "2x", "22" * 3000):
            with self.subTest(text[:20]):
                self.refused(InvalidText, "given", text, Board.read, text)
                self.refused(InvalidText, "given", text, Board.read, text=text)

    def test_no_strings(self):
        for text in [*NO_STRINGS, (2, 2), [2, 2], 222]:
            with self.subTest(repr(text)):
                self.refused(InvalidText, "given", text, Board.read, text)


class Membership(Case):
    def test_settings_and_other_strings(self):
        board = Board((3, 2))
        for setting in ("00", "01", "10", "11", "20", "21"):
            self.assertIs(setting in board, True)
        for value in ("", "0", "1", "02", "12", "22", "30", "000", "001", "00\n", "00 ", " 00",
                      "0 0", "0a", "ab", "32", "-1", "0,0"):
            with self.subTest(value):
                self.assertIs(value in board, False)
                self.assertIs(value not in board, True)

    def test_settings_of_other_boards(self):
        for sizes in ALL_SIZES:
            board = Board(sizes)
            for other in ALL_SIZES:
                for setting in settings_by_product(other):
                    self.assertEqual(setting in board, setting in settings_by_product(sizes))

    def test_no_strings(self):
        board = Board((2, 2))
        for value in NO_STRINGS:
            with self.subTest(repr(value)):
                self.assertIs(value in board, False)


class Equality(unittest.TestCase):
    def test_equal_exactly_if_the_texts_are(self):
        for sizes in ALL_SIZES:
            for other in ALL_SIZES:
                one, two = Board(sizes), Board(tuple(other))
                self.assertIs(one == two, sizes == other)
                self.assertIs(one != two, sizes != other)
        self.assertEqual(Board((2, 3)), Board.read("23"))
        self.assertNotEqual(Board((2, 3)), Board((3, 2)))
        board = Board((2, 3))
        self.assertIs(board == board, True)
        self.assertIs(board != board, False)

    def test_beside_values_of_other_classes(self):
        board = Board((2, 2))
        others = [
            None, True, 22, 4, "22", b"22", (2, 2), [2, 2], ("01", "01"), board.settings,
            board.whole, {}, set(), object(), Board, InvalidText("22"),
        ]
        for other in others:
            with self.subTest(repr(other)):
                self.assertIs(board == other, False)
                self.assertIs(other == board, False)
                self.assertIs(board != other, True)
                self.assertIs(other != board, True)

    def test_an_object_that_is_equal_to_all(self):
        self.assertIs(Board((2, 2)) == AlwaysEqual(), False)
        self.assertIs(Board((2, 2)) != AlwaysEqual(), True)


class Neighbours(Case):
    def test_beside_and_distance(self):
        for sizes in ALL_SIZES:
            board = Board(sizes)
            for start in board.settings:
                self.assertEqual(
                    board.beside(start),
                    tuple(goal for goal in board.settings if apart(start, goal) == 1),
                )
                for goal in board.settings:
                    self.assertEqual(board.distance(start, goal), apart(start, goal))

    def test_by_name(self):
        board = Board((3, 2))
        self.assertEqual(board.beside(setting="11"), ("01", "10", "21"))
        self.assertEqual(board.distance(goal="00", start="21"), 2)
        self.assertEqual(board.distance("20", "00"), 1)
        self.assertEqual(board.distance("20", "20"), 0)

    def test_unknown_settings(self):
        board = Board((2, 3))
        for wrong in [*NO_STRINGS, "", "0", "000", "20", "03", "00\n", " 00", "ab"]:
            with self.subTest(repr(wrong)):
                self.refused(UnknownSetting, "given", wrong, board.beside, wrong)
                self.refused(UnknownSetting, "given", wrong, board.beside, setting=wrong)
                self.refused(UnknownSetting, "given", wrong, board.distance, wrong, "00")
                self.refused(UnknownSetting, "given", wrong, board.distance, "00", wrong)
                self.refused(UnknownSetting, "given", wrong, board.distance, goal=wrong, start="00")

    def test_the_start_is_looked_at_ahead_of_the_goal(self):
        board = Board((2, 3))
        for first, second in [("20", "30"), ("30", "20"), (None, []), ([], None), ("", ())]:
            self.refused(UnknownSetting, "given", first, board.distance, first, second)
            self.refused(UnknownSetting, "given", first, board.distance, goal=second, start=first)


class Parts(Case):
    def test_each_part_of_each_board(self):
        choices = {2: ("0", "1", "01"), 3: ("0", "1", "2", "01", "02", "12", "012")}
        for sizes in ALL_SIZES:
            board = Board(sizes)
            for part in product(*[choices[size] for size in sizes]):
                self.assertEqual(
                    board.inside(part), tuple(sorted("".join(row) for row in product(*part))))

    def test_the_whole(self):
        for sizes in ALL_SIZES:
            board = Board(sizes)
            self.assertEqual(board.inside(board.whole), board.settings)
            self.assertEqual(board.inside(None), board.settings)
            self.assertEqual(board.inside(part=None), board.settings)
            self.assertEqual(board.inside(), board.settings)

    def test_by_name(self):
        self.assertEqual(Board((3, 2)).inside(part=("12", "0")), ("10", "20"))

    def test_every_part_of_strings_of_three_signs(self):
        words = ["".join(row) for many in range(4) for row in product("012", repeat=many)]
        right = {3: ("0", "1", "2", "01", "02", "12", "012"), 2: ("0", "1", "01")}
        for size in (2, 3):
            board = Board((size,))
            for word in words:
                part = (word,)
                if word in right[size]:
                    self.assertEqual(board.inside(part), tuple(word))
                else:
                    self.refused(InvalidPart, "given", part, board.inside, part)

    def test_wrong_parts(self):
        board = Board((3, 2))
        for part in [
            (), ("0",), ("012",), ("0", "0", "0"), ("012", "01", ""), ["0", "0"], ["012", "01"],
            ("", "0"), ("0", ""), ("10", "0"), ("0", "10"), ("021", "0"), ("00", "0"), ("0", "11"),
            ("0112", "0"), ("3", "0"), ("0", "2"), ("0", "02"), ("0", "012"), ("0 1", "0"),
            ("0\n", "0"), (" 0", "0"), ("a", "0"), (0, "0"), ("0", 1), (None, "0"), ("0", None),
            (("0",), "0"), ("0", ["0"]), ("0", b"0"), (True, False), ("0", {}), ("0", {"0"}),
            ("0", AlwaysEqual()), ("0", board), "00", "01", "", b"00", 0, True, False, 12, {},
            {"0": "0"}, {"0"}, object(), board, AlwaysEqual(), (("012", "01"),),
            [["012"], ("01",)], str, InvalidPart(None),
        ]:
            with self.subTest(repr(part)):
                self.refused(InvalidPart, "given", part, board.inside, part)
                self.refused(InvalidPart, "given", part, board.inside, part=part)

    def test_parts_of_other_boards(self):
        for sizes, other in [((3, 2), (3, 3)), ((2, 2), (2, 2, 2)), ((2, 3), (3, 2)), ((2, 2), (2,))]:
            whole = Board(other).whole
            self.refused(InvalidPart, "given", whole, Board(sizes).inside, whole)
        self.assertEqual(len(Board((3, 2)).inside(Board((2, 2)).whole)), 4)


class Squares(unittest.TestCase):
    def test_of_all_fours_of_settings(self):
        for sizes in ALL_SIZES:
            board = Board(sizes)
            if len(board) <= 24:
                self.assertEqual(
                    board.squares(),
                    tuple(four for four in combinations(board.settings, 4) if is_square(four)),
                )

    def test_of_all_pairs_of_opposite_corners(self):
        for sizes in ALL_SIZES:
            board = Board(sizes)
            found = set()
            for low, high in combinations(board.settings, 2):
                if apart(low, high) == 2:
                    others = [setting for setting in board.settings
                              if apart(low, setting) == apart(high, setting) == 1
                              and all(s in (a, b) for s, a, b in zip(setting, low, high))]
                    found.add(tuple(sorted([low, high, *others])))
            self.assertEqual(board.squares(), tuple(sorted(found)))

    def test_the_corners(self):
        for sizes in ALL_SIZES:
            board = Board(sizes)
            for a, b, c, d in board.squares():
                self.assertTrue(a < b < c < d)
                self.assertEqual((apart(a, d), apart(b, c)), (2, 2))
                self.assertEqual([apart(one, two) for one in (a, d) for two in (b, c)], [1] * 4)

    def test_one_switch_has_none(self):
        self.assertEqual(Board((2,)).squares(), ())
        self.assertEqual(Board((3,)).squares(), ())

    def test_how_many(self):
        self.assertEqual(len(Board((3, 3)).squares()), 9)
        self.assertEqual(len(Board((2, 2, 2, 2, 2)).squares()), 80)
        self.assertEqual(len(Board((3, 2, 2, 2, 2)).squares()), 168)


class Unchanged(Case):
    def state(self, board):
        return (board.sizes, board.settings, board.whole, str(board), len(board), board.squares(),
                [board.beside(setting) for setting in board.settings])

    def test_behind_refused_calls(self):
        board = Board((3, 2, 2))
        before = self.state(board)
        for wrong in [*NO_STRINGS, "", "0", "300"]:
            self.refused(UnknownSetting, "given", wrong, board.beside, wrong)
            self.refused(UnknownSetting, "given", wrong, board.distance, "000", wrong)
            if wrong is not None:
                self.refused(InvalidPart, "given", wrong, board.inside, wrong)
            self.refused(InvalidText, "given", wrong, board.read, wrong)
        self.assertEqual(self.state(board), before)
        self.assertEqual(board, Board((3, 2, 2)))

    def test_equal_calls_return_equal_results(self):
        self.assertEqual(self.state(Board((3, 2, 2))), self.state(Board.read("322")))
        board = Board((3, 2, 2))
        self.assertEqual(self.state(board), self.state(board))

    def test_values_that_were_passed(self):
        board = Board((2, 2))
        part, setting = ["01", "01"], ["00"]
        self.refused(InvalidPart, "given", part, board.inside, part)
        self.refused(UnknownSetting, "given", setting, board.beside, setting)
        self.assertFalse(setting in board)
        self.assertEqual((part, setting), (["01", "01"], ["00"]))


if __name__ == "__main__":
    unittest.main()
