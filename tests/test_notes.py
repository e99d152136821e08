"""Tests of switchhills.notes."""

import unittest
from itertools import combinations, product
from random import Random

from support import (
    ALL_SIZES, AlwaysEqual, Case, FEW, MANY, NO_BOARDS, NO_NOTES, NO_RANKINGS, NO_SETTINGS,
    NO_STRINGS, all_places, apart, better_ones, drawn_facts, drawn_order, few_notes,
    fitting_orders, great_notes, has_ring, neighbour_pairs,
)
from switchhills import notes as module
from switchhills.boards import Board
from switchhills.errors import (
    InvalidFact, InvalidFacts, InvalidIndex, InvalidText, NotABoard, NotARanking, NotNotes,
    OtherBoard, UnknownSetting,
)
from switchhills.notes import Notes
from switchhills.rankings import Ranking

SMALL = Board((2, 2))
SOME = Notes(SMALL, (("01", "00"), ("10", "00"), ("01", "11")))
RING = (("01", "00"), ("00", "10"), ("10", "11"), ("11", "01"))


def first_wrong(board, facts):
    """The index of the first element that is wrong, by the words of the document."""
    for index, fact in enumerate(facts):
        if type(fact) is not tuple or len(fact) != 2:
            return index
        if not all(type(one) is str and one in board.settings for one in fact):
            return index
        if apart(*fact) != 1 or has_ring(facts[:index + 1]):
            return index
        if any(set(fact) == set(other) for other in facts[:index]):
            return index
    return None


class Example(Case):
    def test_the_example_of_the_document(self):
        small = Board((2, 2))
        some = Notes(small, (("01", "00"), ("10", "00"), ("01", "11")))
        self.assertEqual(
            [some.known("01", "11"), some.known("00", "10"), some.known("10", "11"),
             some.known("00", "11"), some.pairs(), str(some),
             some.fits(Ranking(small, ("01", "11", "10", "00")))],
            ['worse', 'better', 'open', 'open', (('10', '11'),),
             'board 22\n01 < 00\n10 < 00\n01 < 11', True],
        )
        self.assertEqual(
            [some.told("10", "11").known("10", "11"), some.without(0).facts,
             Notes.read("board 2").pairs(),
             some.united(Notes(small, (("11", "10"),))).known("11", "00")],
            ['worse', (('10', '00'), ('01', '11')), (('0', '1'),), 'worse'],
        )
        self.refused(
            InvalidFacts, "index", 3, Notes, small,
            (("01", "00"), ("00", "10"), ("10", "11"), ("11", "01")))


class Making(Case):
    def test_by_position_and_by_name(self):
        rng = Random(1)
        for text in FEW + MANY:
            board = Board.read(text)
            facts = drawn_facts(rng, drawn_order(rng, board))
            for notes in (Notes(board, facts), Notes(board, facts=facts),
                          Notes(facts=facts, board=board)):
                self.assertIs(type(notes), Notes)
                self.assertIs(notes.board, board)
                self.assertIs(notes.facts, facts)
                self.assertEqual(len(notes), len(facts))
                self.assertTrue(notes)

    def test_without_facts(self):
        for sizes in ALL_SIZES:
            board = Board(sizes)
            for notes in (Notes(board), Notes(board=board), Notes(board, ()), Notes(board, facts=())):
                self.assertIs(notes.board, board)
                self.assertEqual(notes.facts, ())
                self.assertEqual(len(notes), 0)
                self.assertIs(bool(notes), True)
                self.assertEqual(str(notes), "board " + str(board))

    def test_properties_cannot_be_assigned(self):
        notes = Notes(SMALL, (("00", "01"),))
        for name in ("board", "facts"):
            with self.subTest(name), self.assertRaises(AttributeError):
                setattr(notes, name, ())
        self.assertEqual(notes, Notes(SMALL, (("00", "01"),)))

    def test_defined_in_the_class_itself(self):
        for name in ("__init__", "__len__", "__str__", "__eq__", "read", "board", "facts", "told",
                     "without", "united", "known", "fits", "ranking", "pairs"):
            self.assertIn(name, vars(Notes))
        self.assertEqual(Notes.__module__, module.__name__)

    def test_a_fact_that_is_known_already_may_be_told(self):
        board = Board((3,))
        notes = Notes(board, (("0", "1"), ("1", "2"), ("0", "2")))
        self.assertEqual(notes.facts, (("0", "1"), ("1", "2"), ("0", "2")))
        self.assertEqual(notes.known("0", "2"), "worse")

    def test_all_facts_of_an_order(self):
        rng = Random(2)
        for text in FEW + MANY:
            board = Board.read(text)
            order = drawn_order(rng, board)
            pairs = neighbour_pairs(board.settings)
            notes = Notes(board, drawn_facts(rng, order, len(pairs)))
            self.assertEqual(len(notes), len(pairs))
            self.assertEqual(notes.pairs(), ())
            self.assertIs(notes.fits(Ranking(board, order)), True)


class WrongFacts(Case):
    def test_no_board(self):
        for value in NO_BOARDS:
            with self.subTest(repr(value)):
                self.refused(NotABoard, "given", value, Notes, value)
                self.refused(NotABoard, "given", value, Notes, value, None)
                self.refused(NotABoard, "given", value, Notes, facts=["00"], board=value)

    def test_no_tuple(self):
        for facts in (None, True, False, 0, 3, "", "00", "01 < 00", b"", [], [("01", "00")], {},
                      {("01", "00")}, {"01": "00"}, object(), AlwaysEqual(), SMALL, SOME, tuple):
            with self.subTest(repr(facts)):
                self.refused(InvalidFacts, "index", None, Notes, SMALL, facts)
                self.refused(InvalidFacts, "index", None, Notes, SMALL, facts=facts)

    def test_elements_that_are_no_facts(self):
        for value in [
            *[value for value in NO_STRINGS if type(value) is not tuple or value != ("00", "01")],
            "", "00", "01", "0001", "01 < 00", ("01",), ("01", "00", "00"),
            ("01", "01"), ("00", "11"), ("01", "10"), ["01", "00"], {"01": "00"}, {"01", "00"}, ("01", "20"),
            ("20", "10"), ("0", "1"), ("000", "001"), ("01", "02"), (("01", "00"),),
            ("01", ("00",)), (("01",), "00"), ("01", "00 "), (" 01", "00"), ("01", b"00"),
        ]:
            with self.subTest(repr(value)):
                self.refused(InvalidFacts, "index", 0, Notes, SMALL, (value,))
                self.refused(InvalidFacts, "index", 1, Notes, SMALL, (("11", "01"), value))
                self.refused(InvalidFacts, "index", 1, Notes, SMALL, (("11", "01"), value, None))

    def test_settings_of_other_kinds(self):
        for value in NO_SETTINGS:
            with self.subTest(repr(value)):
                self.refused(InvalidFacts, "index", 0, Notes, SMALL, ((value, "00"),))
                self.refused(InvalidFacts, "index", 1, Notes, SMALL, (("00", "10"), ("00", value)))
                self.refused(InvalidFacts, "index", 0, Notes, SMALL, ((value, value),))

    def test_the_same_two_settings(self):
        for facts, index in [
            ((("01", "00"), ("01", "00")), 1), ((("01", "00"), ("00", "01")), 1),
            ((("01", "00"), ("10", "00"), ("01", "00")), 2),
            ((("01", "00"), ("10", "00"), ("00", "01")), 2),
            ((("01", "00"), ("01", "00"), ("00", "00")), 1),
        ]:
            with self.subTest(repr(facts)):
                self.refused(InvalidFacts, "index", index, Notes, SMALL, facts)

    def test_rings(self):
        self.refused(InvalidFacts, "index", 3, Notes, SMALL, RING)
        for turn in range(4):
            self.refused(InvalidFacts, "index", 3, Notes, SMALL, RING[turn:] + RING[:turn])
        self.refused(InvalidFacts, "index", 3, Notes, SMALL, RING + (None,))
        self.refused(InvalidFacts, "index", 2, Notes, SMALL, (RING[0], RING[2], None, RING[1]))
        board = Board((3,))
        self.refused(
            InvalidFacts, "index", 2, Notes, board, (("0", "1"), ("1", "2"), ("2", "0")))
        self.assertEqual(len(Notes(board, (("0", "1"), ("1", "2"), ("0", "2")))), 3)

    def test_drawn_rows_of_facts(self):
        rng = Random(3)
        wrong = 0
        for text in FEW + MANY[:5]:
            board = Board.read(text)
            pairs = neighbour_pairs(board.settings)
            for _ in range(60):
                drawn = [pair[::rng.choice((1, -1))] for pair in pairs]
                rng.shuffle(drawn)
                facts = tuple(drawn[:rng.randrange(1, 2 * len(board))])
                if rng.randrange(3) == 0:
                    facts = facts + (rng.choice(facts)[::rng.choice((1, -1))],)
                index = first_wrong(board, facts)
                if index is None:
                    self.assertEqual(Notes(board, facts).facts, facts)
                else:
                    wrong += 1
                    self.refused(InvalidFacts, "index", index, Notes, board, facts)
        self.assertGreater(wrong, 200)

    def test_long_rings_of_the_greatest_board(self):
        board = Board.read("32222")
        row = [""]
        for stands in ("012", "01", "01", "01", "01"):
            # Each time the row goes there and back, so that each element is next to the last one.
            row = [one + stand for at, one in enumerate(row)
                   for stand in (stands if at % 2 == 0 else stands[::-1])]
        self.assertEqual({apart(*pair) for pair in zip(row, row[1:])}, {1})
        facts = tuple(zip(row, row[1:]))
        self.assertEqual(Notes(board, facts).known(row[0], row[-1]), "worse")
        for low, high in combinations(range(len(row)), 2):
            if apart(row[low], row[high]) == 1:
                self.refused(InvalidFacts, "index", 47, Notes, board, facts + ((row[high], row[low]),))


class Texts(Case):
    def test_there_and_back(self):
        rng = Random(4)
        for notes in [*few_notes(rng, 20), *great_notes(rng, 3)]:
            text = str(notes)
            lines = [f"{worse} < {better}" for worse, better in notes.facts]
            self.assertIs(type(text), str)
            self.assertEqual(text, "\n".join(["board " + str(notes.board), *lines]))
            for again in (Notes.read(text), Notes.read(text=text)):
                self.assertIs(type(again), Notes)
                self.assertEqual(again, notes)
                self.assertEqual(again.facts, notes.facts)
                self.assertEqual(again.board, notes.board)
                self.tuple_of(tuple, again.facts)

    def test_no_fact(self):
        notes = Notes.read("board 322")
        self.assertEqual((str(notes.board), notes.facts), ("322", ()))

    def test_wrong_texts(self):
        for text in [
            "", "\n", " ", "board", "board ", "board\n", "22", "board 22\n", "board 22\n\n",
            "\nboard 22", " board 22", "board  22", "board 22 ", "board\t22", "board22", "Board 22",
            "board\n22", "boards 22", "board 1", "board 4", "board 222222", "board 3332",
            "board 2 2", "board 22 22", "board board 22", "board 22board 22", "board (2, 2)",
            "22\n01 < 00", "01 < 00", "01 < 00\nboard 22", "board 22 01 < 00", "board \n01 < 00",
            "board 22\n01 < 00\n", "board 22\n\n01 < 00", "board 22\n01 < 00\n\n10 < 00",
            "board 22\n 01 < 00", "board 22\n01 < 00 ", "board 22 \n01 < 00", "board 22\n01  < 00",
            "board 22\n01 <  00", "board 22\n01< 00", "board 22\n01 <00", "board 22\n01<00",
            "board 22\n01 > 00", "board 22\n01 <= 00", "board 22\n01 < 00 < 10", "board 22\n01",
            "board 22\n01 <", "board 22\n< 00", "board 22\n <  < ", "board 22\n<", "board 22\n01 00",
            "board 22\n01 < 00 10 < 00", "board 22\n01 < 00, 10 < 00", "board 22\n(01, 00)",
            "board 22\n00 < 11", "board 22\n01 < 01", "board 22\n01 < 02", "board 22\n1 < 0",
            "board 22\n001 < 000", "board 22\n01 < 00\n01 < 00", "board 22\n01 < 00\n00 < 01",
            "board 22\n01 < 00\n00 < 10\n10 < 11\n11 < 01", "board 22\nboard 22",
            "board 22\n01 < 00\nboard 22", "board 22\n01 < 00\nand more", "board 23\n02 < 00\n20 < 00",
        ]:
            with self.subTest(text):
                self.refused(InvalidText, "given", text, Notes.read, text)
                self.refused(InvalidText, "given", text, Notes.read, text=text)

    def test_no_strings(self):
        for text in [*NO_STRINGS, ("board 22",), ["board 22"], b"board 22", SOME,
                     {"board 22": "01 < 00"}]:
            with self.subTest(repr(text)):
                self.refused(InvalidText, "given", text, Notes.read, text)

    def test_each_sign_of_a_text_is_needed(self):
        text = "board 22\n01 < 00\n10 < 00"
        for at in range(len(text)):
            for sign in ("", " ", "\n", "<", "a", text[at] * 2):
                other = text[:at] + sign + text[at + 1:]
                if other != text:
                    self.refused(InvalidText, "given", other, Notes.read, other)


class Equality(unittest.TestCase):
    def test_equal_exactly_if_the_texts_are(self):
        rng = Random(5)
        every = list(few_notes(rng, 6))[::7]
        every.extend([Notes(SMALL, (("01", "00"), ("10", "00"))), Notes(Board((2, 3))),
                      Notes(SMALL, (("10", "00"), ("01", "00"))), Notes(Board((3, 2))),
                      Notes(SMALL, (("10", "00"),)), Notes(SMALL), Notes(Board((2, 2)))])
        for one in every:
            for two in every:
                self.assertIs(one == two, str(one) == str(two))
                self.assertIs(one != two, str(one) != str(two))

    def test_the_order_of_the_facts_counts(self):
        one = Notes(SMALL, (("01", "00"), ("10", "00")))
        self.assertNotEqual(one, Notes(SMALL, (("10", "00"), ("01", "00"))))
        self.assertEqual(one, Notes(Board.read("22"), (("01", "00"), ("10", "00"))))

    def test_the_same_facts_on_other_boards(self):
        facts = (("00", "01"),)
        self.assertNotEqual(Notes(Board((2, 2)), facts), Notes(Board((2, 3)), facts))

    def test_beside_values_of_other_classes(self):
        for notes in (SOME, Notes(SMALL)):
            for other in [None, True, False, 0, 3, "", str(notes), b"", (), notes.facts,
                          list(notes.facts), (SMALL, notes.facts), {}, set(), object(), SMALL,
                          notes.ranking(), Notes, InvalidText("22")]:
                with self.subTest(repr(other)):
                    self.assertIs(notes == other, False)
                    self.assertIs(other == notes, False)
                    self.assertIs(notes != other, True)
                    self.assertIs(other != notes, True)

    def test_an_object_that_is_equal_to_all(self):
        self.assertIs(SOME == AlwaysEqual(), False)
        self.assertIs(SOME != AlwaysEqual(), True)


class Telling(Case):
    def test_a_fact_more(self):
        rng = Random(6)
        for notes in [*few_notes(rng, 8), *great_notes(rng, 2)]:
            board = notes.board
            pairs = [(one, two) for one in board.settings for two in board.beside(one)]
            for worse, better in rng.sample(pairs, min(len(pairs), 12)):
                facts = notes.facts + ((worse, better),)
                if first_wrong(board, facts) is None:
                    more = notes.told(worse, better)
                    self.assertIs(type(more), Notes)
                    self.assertIs(more.board, board)
                    self.assertEqual(more.facts, facts)
                    self.assertEqual(more.known(worse, better), "worse")
                    self.assertEqual(notes.told(better=better, worse=worse), more)
                else:
                    self.refused_pair(InvalidFact, (worse, better), notes.told, worse, better)

    def test_what_would_not_be_notes(self):
        for worse, better in [
            ("00", "00"), ("00", "11"), ("11", "00"), ("10", "01"), ("01", "00"), ("00", "01"),
            ("10", "00"), ("00", "10"), ("11", "01"),
        ]:
            with self.subTest(worse + better):
                self.refused_pair(InvalidFact, (worse, better), SOME.told, worse, better)
                self.refused_pair(
                    InvalidFact, (worse, better), SOME.told, better=better, worse=worse)
        self.refused_pair(InvalidFact, RING[3], Notes(SMALL, RING[:3]).told, *RING[3])

    def test_the_notes_stay_as_they_were(self):
        notes = Notes(SMALL, (("00", "01"),))
        notes.told("01", "11")
        self.refused_pair(InvalidFact, ("01", "00"), notes.told, "01", "00")
        self.assertEqual(str(notes), "board 22\n00 < 01")
        self.assertEqual(notes.known("00", "11"), "open")

    def test_unknown_settings(self):
        for value in NO_SETTINGS:
            with self.subTest(repr(value)):
                self.refused(UnknownSetting, "given", value, SOME.told, value, "00")
                self.refused(UnknownSetting, "given", value, SOME.told, "00", value)
                self.refused(UnknownSetting, "given", value, SOME.told, better="00", worse=value)
                self.refused(UnknownSetting, "given", value, SOME.told, better=value, worse="00")
        for first, second in [("20", "02"), (None, []), ([], None), ("", ())]:
            self.refused(UnknownSetting, "given", first, SOME.told, first, second)
            self.refused(UnknownSetting, "given", first, SOME.told, better=second, worse=first)


class Leaving(Case):
    def test_each_fact(self):
        rng = Random(7)
        for notes in [*list(few_notes(rng, 8))[::3], *great_notes(rng, 1)]:
            for index in range(len(notes)):
                less = notes.without(index)
                self.assertIs(type(less), Notes)
                self.assertIs(less.board, notes.board)
                self.assertEqual(less.facts, notes.facts[:index] + notes.facts[index + 1:])
                self.assertEqual(notes.without(index=index), less)
                wanted = better_ones(notes.board.settings, less.facts)
                worse, better = notes.facts[index]
                self.assertEqual(less.known(worse, better) == "worse", better in wanted[worse])

    def test_no_index(self):
        for value in [
            True, False, None, -1, -3, 3, 4, 10 ** 39, "", "0", b"0", (), (0,), [], [0], {}, {0: 0},
            {0}, object(), int, SMALL, SOME, AlwaysEqual(), ("01", "00"), InvalidIndex(0),
        ]:
            with self.subTest(repr(value)):
                self.refused(InvalidIndex, "given", value, SOME.without, value)
                self.refused(InvalidIndex, "given", value, SOME.without, index=value)
        for value in (0, -1, True, None):
            self.refused(InvalidIndex, "given", value, Notes(SMALL).without, value)
        self.assertEqual(len(SOME), 3)
        self.assertEqual(SOME.without(2).facts, (("01", "00"), ("10", "00")))


class Uniting(Case):
    def test_the_facts_of_both(self):
        rng = Random(8)
        let, not_let = 0, 0
        for text in FEW + MANY:
            board = Board.read(text)
            for _ in range(20):
                order = drawn_order(rng, board)
                one = Notes(board, drawn_facts(rng, order))
                if rng.randrange(2):
                    order = drawn_order(rng, board)
                two = Notes(Board.read(text), drawn_facts(rng, order))
                facts, wrong = list(one.facts), None
                for index, fact in enumerate(two.facts):
                    if fact not in facts and wrong is None:
                        facts.append(fact)
                        if has_ring(facts):
                            wrong = index
                if wrong is None:
                    let += 1
                    self.assertIs(type(one.united(two)), Notes)
                    self.assertIs(one.united(two).board, board)
                    self.assertEqual(one.united(notes=two).facts, tuple(facts))
                else:
                    not_let += 1
                    self.refused(InvalidFacts, "index", wrong, one.united, two)
        self.assertGreater(let, 100)
        self.assertGreater(not_let, 30)

    def test_facts_that_are_there_already(self):
        other = Notes(SMALL, (("01", "11"), ("11", "10"), ("01", "00")))
        self.assertEqual(SOME.united(other).facts, SOME.facts + (("11", "10"),))
        self.assertEqual(other.united(SOME).facts, other.facts + (("10", "00"),))
        self.assertEqual(SOME.united(SOME), SOME)
        self.assertEqual(SOME.united(Notes(SMALL)), SOME)
        self.assertEqual(Notes(SMALL).united(SOME), SOME)

    def test_the_index_among_the_other_facts(self):
        other = Notes(SMALL, (("01", "11"), ("01", "00"), ("00", "10"), ("11", "10")))
        self.refused(InvalidFacts, "index", 2, SOME.united, other)
        self.refused(InvalidFacts, "index", 0, SOME.united, Notes(SMALL, (("00", "01"),)))
        long = Notes(SMALL, RING[:2])
        self.refused(InvalidFacts, "index", 2, long.united, Notes(SMALL, (RING[0], RING[2], RING[3])))
        self.refused(InvalidFacts, "index", 1, long.united, Notes(SMALL, RING[2:]))

    def test_other_boards(self):
        for sizes in ((2,), (2, 3), (3, 2), (2, 2, 2)):
            other = Notes(Board(sizes))
            self.refused(OtherBoard, "given", other, SOME.united, other)
            self.refused(OtherBoard, "given", other, SOME.united, notes=other)
        ring = Notes(Board((2, 3)), (("00", "01"),))
        self.refused(OtherBoard, "given", ring, SOME.united, ring)

    def test_no_notes(self):
        for value in NO_NOTES:
            with self.subTest(repr(value)):
                self.refused(NotNotes, "given", value, SOME.united, value)
                self.refused(NotNotes, "given", value, SOME.united, notes=value)


class Known(Case):
    def test_against_all_orders_that_fit(self):
        for notes in few_notes(Random(9), 40):
            board = notes.board
            places = [{setting: at for at, setting in enumerate(order)}
                      for order in fitting_orders(notes)]
            for start, goal in product(board.settings, repeat=2):
                under = {place[start] < place[goal] for place in places}
                word = {(True,): "worse", (False,): "better"}.get(tuple(under), "open")
                self.assertEqual(notes.known(start, goal), "same" if start == goal else word)
            wanted = tuple(pair for pair in neighbour_pairs(board.settings)
                           if len({place[pair[0]] < place[pair[1]] for place in places}) == 2)
            self.assertEqual(notes.pairs(), wanted)
            self.tuple_of(tuple, notes.pairs())

    def test_greater_boards(self):
        for notes in great_notes(Random(10), 5):
            settings = notes.board.settings
            found = better_ones(settings, notes.facts)
            for start, goal in product(settings, repeat=2):
                word = "open"
                if start == goal:
                    word = "same"
                elif goal in found[start]:
                    word = "worse"
                elif start in found[goal]:
                    word = "better"
                self.assertEqual(notes.known(start, goal), word)
            self.assertEqual(notes.pairs(), tuple(
                (low, high) for low, high in neighbour_pairs(settings)
                if high not in found[low] and low not in found[high]))

    def test_by_name(self):
        self.assertEqual(SOME.known(start="01", goal="00"), "worse")
        self.assertEqual(SOME.known(goal="01", start="00"), "better")

    def test_unknown_settings(self):
        for value in NO_SETTINGS:
            with self.subTest(repr(value)):
                self.refused(UnknownSetting, "given", value, SOME.known, value, "00")
                self.refused(UnknownSetting, "given", value, SOME.known, "00", value)
                self.refused(UnknownSetting, "given", value, SOME.known, value, value)
                self.refused(UnknownSetting, "given", value, SOME.known, goal=value, start="00")
        for first, second in [("20", "02"), (None, []), ([], None), ("", ())]:
            self.refused(UnknownSetting, "given", first, SOME.known, first, second)
            self.refused(UnknownSetting, "given", first, SOME.known, goal=second, start=first)


class Fitting(Case):
    def test_all_orders(self):
        for notes in list(few_notes(Random(11), 6))[::3]:
            fitting = set(fitting_orders(notes))
            for order, _ in all_places(notes.board.settings)[::5]:
                ranking = Ranking(Board(notes.board.sizes), order)
                self.assertIs(notes.fits(ranking), order in fitting)
                self.assertIs(notes.fits(ranking=ranking), order in fitting)

    def test_greater_boards(self):
        rng = Random(12)
        for text in MANY:
            board = Board.read(text)
            for _ in range(5):
                order = drawn_order(rng, board)
                notes = Notes(board, drawn_facts(rng, order, len(board)))
                self.assertIs(notes.fits(Ranking(board, order)), True)
                self.assertIs(notes.fits(Ranking(board, order[::-1])), False)
                # Each fact is looked at, the last one, too.
                worse, better = notes.facts[-1]
                moved = [setting for setting in order if setting != better]
                moved.insert(moved.index(worse), better)
                self.assertIs(notes.fits(Ranking(board, tuple(moved))), False)

    def test_any_ranking_that_fits(self):
        rng = Random(13)
        for notes in [*few_notes(rng, 40), *great_notes(rng, 8)]:
            ranking = notes.ranking()
            self.assertIs(type(ranking), Ranking)
            self.assertIs(ranking.board, notes.board)
            self.assertIs(notes.fits(ranking), True)
            self.assertEqual(notes.ranking(), ranking)
            self.assertEqual(Notes.read(str(notes)).ranking(), ranking)

    def test_all_facts_leave_what_they_tell(self):
        board = Board((3,))
        notes = Notes(board, (("2", "0"), ("0", "1")))
        self.assertEqual(notes.ranking().order, ("2", "0", "1"))

    def test_other_boards(self):
        for sizes in ((2,), (2, 3), (3, 2), (2, 2, 2)):
            ranking = Ranking(Board(sizes), Board(sizes).settings)
            self.refused(OtherBoard, "given", ranking, SOME.fits, ranking)
            self.refused(OtherBoard, "given", ranking, SOME.fits, ranking=ranking)
            self.refused(OtherBoard, "given", ranking, Notes(SMALL).fits, ranking)

    def test_no_rankings(self):
        for value in NO_RANKINGS:
            with self.subTest(repr(value)):
                self.refused(NotARanking, "given", value, SOME.fits, value)
                self.refused(NotARanking, "given", value, SOME.fits, ranking=value)


class Unchanged(Case):
    def state(self, notes):
        settings = notes.board.settings
        return (notes.board, notes.facts, len(notes), str(notes), notes.pairs(), notes.ranking(),
                [notes.known(one, two) for one in settings for two in settings])

    def test_behind_calls_and_refused_calls(self):
        board = Board((2, 2))
        notes = Notes(board, (("01", "00"), ("10", "00"), ("01", "11")))
        other = Notes(board, (("00", "01"),))
        before, of_other = self.state(notes), self.state(other)
        facts = notes.facts
        notes.told("10", "11"), notes.without(1), notes.united(Notes(board, (("11", "10"),)))
        for value in [None, True, [], "20", ("00",), SMALL]:
            self.refused(UnknownSetting, "given", value, notes.told, value, "00")
            self.refused(UnknownSetting, "given", value, notes.known, "00", value)
            self.refused(InvalidIndex, "given", value, notes.without, value)
            self.refused(NotNotes, "given", value, notes.united, value)
            self.refused(NotARanking, "given", value, notes.fits, value)
            self.refused(InvalidText, "given", value, notes.read, value)
        self.refused_pair(InvalidFact, ("00", "01"), notes.told, "00", "01")
        self.refused(InvalidFacts, "index", 0, notes.united, other)
        self.assertEqual(self.state(notes), before)
        self.assertEqual(self.state(other), of_other)
        self.assertIs(notes.facts, facts)
        self.assertIs(notes.board, board)

    def test_values_that_were_passed(self):
        facts, setting, pair = [("01", "00")], ["00"], ["01", "00"]
        self.refused(InvalidFacts, "index", None, Notes, SMALL, facts)
        self.refused(InvalidFacts, "index", 0, Notes, SMALL, (pair,))
        self.refused(UnknownSetting, "given", setting, SOME.known, setting, "00")
        self.assertEqual((facts, setting, pair), ([("01", "00")], ["00"], ["01", "00"]))


if __name__ == "__main__":
    unittest.main()
