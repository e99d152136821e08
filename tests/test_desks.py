"""Tests of switchhills.desks."""

import unittest
from functools import lru_cache
from random import Random

from support import (
    AlwaysEqual, Case, FEW, MANY, NO_NOTES, NO_SETTINGS, NO_STRINGS, STRINGS, better_ones,
    drawn_facts, drawn_order, fitting_orders, has_ring, neighbour_pairs, neighbours, wish_holds,
)
from switchhills import desks as module
from switchhills.boards import Board
from switchhills.desks import Desk
from switchhills.errors import (
    Broken, InvalidFact, InvalidIndex, InvalidWish, NothingToUndo, NotNotes, UnknownSetting,
)
from switchhills.notes import Notes
from switchhills.peaks import one_peak, open_settings
from switchhills.squares import is_smooth

SMALL = Board((2, 2))
SOME = Notes(SMALL, (("01", "00"), ("10", "00"), ("01", "11")))
FULL = SOME.told("11", "10")

NO_INDEXES = [
    *[value for value in NO_STRINGS if value is True or type(value) is not int], *STRINGS, True,
    False, -1, -2, 10 ** 39, -(10 ** 39), (0,), [0], "0", b"0", {0: 0}, None,
]

# No wishes for notes of the board 22.
NO_WISHES = [
    *NO_STRINGS, *STRINGS, "one", "smooth", ["one"], ("one", None), ("one", ()), ("one", "00"),
    ("smooth", True), ("smooth", "smooth"), ("open",), ("open", "0"), ("open", "02"),
    ("open", "000"), ("open", "00", "01"), ("open", ("00",)), ("open", None), ("open", b"00"),
    ("open", AlwaysEqual()), ("rises",), ("rises", "00"), ("rises", "00", "00"),
    ("rises", "00", "02"), ("rises", "02", "00"), ("rises", "00", "01", "11"),
    ("rises", ("00", "01")), ("rises", ("00",), "01"), ("rises", AlwaysEqual(), "00"),
    ("rises", "00", AlwaysEqual()), ("rises", None, None), ("few",), ("few", -1), ("few", 49),
    ("few", True), ("few", False), ("few", "2"), ("few", (2,)), ("few", 2, 2), ("few", None),
    ("few", 10 ** 39), ("few", -(10 ** 39)), ("few", AlwaysEqual()), ("One",), ("one ",), ("",),
    (b"one",), (("one",),), (None,), (1,), (True,), (AlwaysEqual(),), (["one"],), ({},), ("two",),
    ("rough",), ("falls", "00", "01"), ("peaks", ("00",)), ("never", ("00",)), ("sure", "00"),
    (str(SOME), "one"), ("one", str(SOME)), {"one": 1}, {"one"}, ("many", 2), ("Few", 2), ("", 2),
    ("asks", 0), ("two", 1), ("known", "00", "01"), ("sure", 1),
]


class Sign(Exception):
    """Ends the rows of a trial."""


@lru_cache(maxsize=None)
def holds_by_orders(text, facts, wish):
    notes = Notes(Board.read(text), tuple(sorted(facts)))
    return wish_holds(fitting_orders(notes), wish)


def holds_by_words(board, facts, wish):
    """Whether a wish holds: by all orders on a small board, on greater ones by what other
    modules tell, which have tests of their own."""
    if len(board) <= 6:
        return holds_by_orders(str(board), frozenset(facts), wish)
    kind, *rest = wish
    over = better_ones(board.settings, facts)
    tops = [setting for setting in board.settings if not over[setting]]
    return {
        "one": lambda: one_peak(Notes(board, facts)), "smooth": lambda: is_smooth(Notes(board, facts)),
        "open": lambda: rest[0] in tops, "rises": lambda: rest[1] in over[rest[0]],
        "few": lambda: len(tops) <= rest[0],
    }[kind]()


class Model:
    """A desk as plain lists: its condition, and all conditions ahead of it."""

    def __init__(self, board, facts):
        self.board = board
        self.past = [(facts, ())]

    @property
    def facts(self):
        return self.past[-1][0]

    @property
    def promises(self):
        return self.past[-1][1]

    def changed(self, facts, promises):
        """None after a change; what is refused otherwise."""
        for index, wish in enumerate(promises):
            if not holds_by_words(self.board, facts, wish):
                return Broken, "index", index
        self.past.append((facts, promises))
        return None

    def tell(self, worse, better):
        for setting in (worse, better):
            if setting not in self.board.settings:
                return UnknownSetting, "given", setting
        pair = (worse, better)
        beside = better in neighbours(worse, self.board.settings)
        if not beside or pair in self.facts or has_ring([*self.facts, pair]):
            return InvalidFact, "given", pair
        return self.changed((*self.facts, pair), self.promises)

    def forget(self, index):
        if index not in range(len(self.facts)):
            return InvalidIndex, "given", index
        return self.changed(
            tuple(fact for at, fact in enumerate(self.facts) if at != index), self.promises)

    def promise(self, wish):
        if wish is None or wish[0] == "wrong":
            return InvalidWish, "given", wish
        return self.changed(self.facts, (*self.promises, wish))

    def lift(self, index):
        if index not in range(len(self.promises)):
            return InvalidIndex, "given", index
        return self.changed(
            self.facts, tuple(wish for at, wish in enumerate(self.promises) if at != index))

    def undo(self):
        if len(self.past) == 1:
            return NothingToUndo, None, None
        self.past.pop()
        return None


def drawn_wish(rng, board):
    one, other = rng.sample(board.settings, 2)
    most = rng.choice([0, 1, 2, len(board) // 2, len(board) - 1, len(board), 48])
    return rng.choice([
        ("one",), ("smooth",), ("open", one), ("open", other), ("rises", one, other), ("few", most),
        ("wrong",), None,
    ])


def drawn_call(rng, desk):
    """The name of a method of a desk, and what to pass."""
    board = desk.notes.board
    kind = rng.randrange(12)
    if kind < 4:
        pair = rng.choice(neighbour_pairs(board.settings))
        return "tell", rng.choice([pair, pair[::-1]])
    if kind == 4:
        return "tell", (rng.choice([*board.settings, "9"]), rng.choice([*board.settings, "9"]))
    if kind < 7:
        return "forget", (rng.randrange(-1, len(desk.notes) + 1),)
    if kind < 10:
        return "promise", (drawn_wish(rng, board),)
    if kind == 10:
        return "lift", (rng.randrange(-1, len(desk.promises) + 1),)
    return "undo", ()


class DeskCase(Case):
    def same(self, desk, model):
        self.assertEqual(desk.notes.facts, model.facts)
        self.assertIs(type(desk.notes), Notes)
        self.assertEqual(str(desk.notes.board), str(model.board))
        self.assertEqual(desk.promises, model.promises)
        self.tuple_of(tuple, desk.promises)
        self.assertEqual(desk.changes, len(model.past) - 1)
        self.assertIs(type(desk.changes), int)

    def call_both(self, desk, model, name, args):
        refused = getattr(model, name)(*args)
        if refused is None:
            self.assertIsNone(getattr(desk, name)(*args))
        else:
            error, attribute, value = refused
            with self.assertRaises(error) as caught:
                getattr(desk, name)(*args)
            self.assertIs(type(caught.exception), error)
            if attribute is not None:
                self.assertEqual(getattr(caught.exception, attribute), value)
        self.same(desk, model)
        return refused

    def holds(self, desk):
        for wish in desk.promises:
            self.assertTrue(holds_by_words(desk.notes.board, desk.notes.facts, wish))


class Example(Case):
    def test_the_example_of_the_document(self):
        desk = Desk(SOME)
        desk.promise(("few", 2))
        desk.tell("11", "10")
        desk.promise(("one",))
        self.assertEqual(
            [desk.notes.facts[3], desk.changes, desk.promises],
            [('11', '10'), 3, (('few', 2), ('one',))])
        self.refused(Broken, "index", 1, desk.forget, 3)
        desk.undo()
        self.assertEqual(
            [len(desk.notes), desk.changes, desk.promises], [4, 2, (('few', 2),)])

    def test_defined_in_the_class_itself(self):
        self.assertEqual(Desk.__module__, module.__name__)
        for name in ("__init__", "tell", "forget", "promise", "lift", "undo", "notes", "promises",
                     "changes", "trial", "tried"):
            self.assertIn(name, vars(Desk))
        for name in ("notes", "promises", "changes"):
            self.assertIsInstance(vars(Desk)[name], property)


class Drawn(DeskCase):
    def play(self, rng, text, many):
        board = Board.read(text)
        facts = drawn_facts(rng, drawn_order(rng, board))
        notes = Notes(board, facts)
        desk, model = Desk(notes), Model(board, facts)
        self.assertIs(desk.notes, notes)
        self.same(desk, model)
        seen = {}
        for _ in range(many):
            refused = self.call_both(desk, model, *drawn_call(rng, desk))
            word = "done" if refused is None else refused[0].__name__
            seen[word] = seen.get(word, 0) + 1
        self.holds(desk)
        self.assertEqual(notes.facts, facts)
        while desk.changes:
            self.assertIsNone(self.call_both(desk, model, "undo", ()))
        self.assertEqual((desk.notes, desk.promises), (notes, ()))
        self.assertEqual(self.call_both(desk, model, "undo", ())[0], NothingToUndo)
        return seen

    def test_small_boards(self):
        rng = Random(1)
        total = {}
        for _ in range(12):
            for text in FEW:
                for word, many in self.play(rng, text, 50).items():
                    total[word] = total.get(word, 0) + many
        for word in ("done", "Broken", "InvalidFact", "InvalidIndex", "InvalidWish",
                     "UnknownSetting", "NothingToUndo"):
            self.assertGreater(total[word], 15, word)

    def test_great_boards(self):
        rng = Random(2)
        for text in MANY:
            self.play(rng, text, 30)

    def test_trials(self):
        rng = Random(3)
        self.ended = {True: 0, False: 0}
        for _ in range(25):
            for text in FEW:
                board = Board.read(text)
                facts = drawn_facts(rng, drawn_order(rng, board))
                desk, model = Desk(Notes(board, facts)), Model(board, facts)
                for _ in range(4):
                    self.rows(rng, desk, model)
                    self.trial(rng, desk, model, 0)
        self.assertGreater(min(self.ended.values()), 100)

    def rows(self, rng, desk, model):
        for _ in range(rng.randrange(6)):
            self.call_both(desk, model, *drawn_call(rng, desk))

    def trial(self, rng, desk, model, depth):
        """The same rows in a trial of the desk and, by a copy, in one of the model."""
        kept = list(model.past)
        error = rng.choice([None, Sign("x"), ValueError(1), Broken(0), NothingToUndo()])
        by_function = rng.random() < 0.5

        def action(held):
            self.assertIs(held, desk)
            self.rows(rng, held, model)
            if depth < 2 and rng.random() < 0.5:
                self.trial(rng, desk, model, depth + 1)
                self.rows(rng, desk, model)
            if error is not None:
                raise error
            return kept

        def run():
            if by_function:
                self.assertIs(desk.tried(action), kept)
            else:
                with desk.trial() as held:
                    action(held)

        self.ended[error is None] += 1
        if error is None:
            run()
        else:
            with self.assertRaises(type(error)) as caught:
                run()
            self.assertIs(caught.exception, error)
            model.past[:] = kept
        self.same(desk, model)


class Changes(DeskCase):
    def test_telling(self):
        desk = Desk(SOME)
        self.assertIsNone(desk.tell("11", "10"))
        self.assertEqual(desk.notes, FULL)
        self.assertEqual(desk.changes, 1)
        for pair in (("11", "10"), ("10", "11"), ("00", "01"), ("00", "11"), ("00", "00")):
            self.refused_pair(InvalidFact, pair, desk.tell, *pair)
        # A ring of four facts.
        self.refused_pair(InvalidFact, ("00", "10"), desk.tell, "00", "10")
        self.assertEqual((desk.notes, desk.changes), (FULL, 1))

    def test_forgetting(self):
        desk = Desk(FULL)
        self.assertIsNone(desk.forget(1))
        self.assertEqual(desk.notes.facts, (("01", "00"), ("01", "11"), ("11", "10")))
        self.assertIsNone(desk.forget(2))
        self.assertIsNone(desk.forget(0))
        self.assertEqual((desk.notes.facts, desk.changes), ((("01", "11"),), 3))
        self.refused(InvalidIndex, "given", 1, desk.forget, 1)
        self.assertIsNone(desk.forget(0))
        self.refused(InvalidIndex, "given", 0, desk.forget, 0)

    def test_promising_and_lifting(self):
        desk = Desk(FULL)
        wishes = [("one",), ("smooth",), ("open", "00"), ("rises", "11", "00"), ("few", 1), ("one",)]
        for many, wish in enumerate(wishes):
            self.assertIsNone(desk.promise(wish))
            self.assertIs(desk.promises[many], wish)
        self.assertEqual((desk.promises, desk.changes), (tuple(wishes), 6))
        self.assertIsNone(desk.lift(2))
        self.assertIsNone(desk.lift(0))
        self.assertIsNone(desk.lift(3))
        self.assertEqual(desk.promises, (("smooth",), ("rises", "11", "00"), ("few", 1)))
        self.assertEqual((desk.changes, desk.notes), (9, FULL))
        self.refused(InvalidIndex, "given", 3, desk.lift, 3)
        desk.undo()
        self.assertEqual(desk.promises[-1], ("one",))

    def test_undoing(self):
        desk = Desk(SOME)
        self.refused_nothing(desk)
        desk.tell("11", "10")
        desk.promise(("one",))
        desk.undo()
        desk.forget(0)
        desk.undo()
        self.assertEqual((desk.notes, desk.promises, desk.changes), (FULL, (), 1))
        self.assertIsNone(desk.undo())
        self.assertIs(desk.notes, SOME)
        self.refused_nothing(desk)
        desk.tell("10", "11")
        self.assertEqual(desk.changes, 1)

    def refused_nothing(self, desk):
        before = desk.notes, desk.promises
        with self.assertRaises(NothingToUndo) as caught:
            desk.undo()
        self.assertIs(type(caught.exception), NothingToUndo)
        self.assertEqual((desk.notes, desk.promises, desk.changes), (*before, 0))

    def test_what_was_undone_may_break_what_was_lifted(self):
        # Back comes a promise together with the notes for which it holds.
        desk = Desk(FULL)
        desk.promise(("one",))
        desk.lift(0)
        desk.forget(3)
        self.assertFalse(one_peak(desk.notes))
        self.refused(Broken, "index", 0, desk.promise, ("one",))
        desk.undo()
        desk.undo()
        self.assertEqual((desk.promises, desk.notes), ((("one",),), FULL))

    def test_the_first_broken_promise(self):
        desk = Desk(FULL)
        for wish in (("few", 48), ("smooth",), ("one",), ("rises", "11", "10"), ("few", 1)):
            desk.promise(wish)
        self.refused(Broken, "index", 1, desk.forget, 3)
        desk.lift(1)
        self.refused(Broken, "index", 1, desk.forget, 3)
        desk.lift(1)
        self.refused(Broken, "index", 1, desk.forget, 3)
        desk.lift(1)
        self.refused(Broken, "index", 1, desk.forget, 3)
        desk.lift(1)
        self.assertIsNone(desk.forget(3))
        self.assertEqual(desk.changes, 10)

    def test_telling_can_break_a_promise(self):
        desk = Desk(SOME)
        desk.promise(("few", 4))
        desk.promise(("open", "11"))
        before = desk.notes
        self.refused(Broken, "index", 1, desk.tell, "11", "10")
        self.refused(Broken, "index", 1, desk.tell, worse="11", better="10")
        self.assertIs(desk.notes, before)
        desk.tell("10", "11")
        self.assertEqual(desk.changes, 3)

    def test_a_promise_that_does_not_hold(self):
        desk = Desk(SOME)
        self.refused(Broken, "index", 0, desk.promise, ("one",))
        desk.promise(("few", 2))
        desk.promise(("few", 2))
        for wish in (("one",), ("smooth",), ("open", "01"), ("rises", "00", "11"), ("few", 1),
                     ("few", 0), ("rises", "11", "01"), ("open", "10")):
            self.refused(Broken, "index", 2, desk.promise, wish)
        self.assertEqual((desk.promises, desk.changes), ((("few", 2),) * 2, 2))


class Wishes(DeskCase):
    def test_each_kind(self):
        for wish, notes, holds in [
            (("one",), FULL, True), (("one",), SOME, False), (("smooth",), FULL, True),
            (("smooth",), SOME, False), (("open", "00"), SOME, True), (("open", "11"), SOME, True),
            (("open", "11"), FULL, False), (("open", "01"), SOME, False),
            (("rises", "01", "00"), SOME, True), (("rises", "11", "00"), SOME, False),
            (("rises", "11", "00"), FULL, True), (("rises", "00", "01"), SOME, False),
            (("few", 2), SOME, True), (("few", 1), SOME, False), (("few", 1), FULL, True),
            (("few", 0), FULL, False), (("few", 48), SOME, True), (("few", 47), SOME, True),
        ]:
            with self.subTest((wish, str(notes))):
                desk = Desk(notes)
                if holds:
                    self.assertIsNone(desk.promise(wish))
                    self.assertEqual(desk.promises, (wish,))
                else:
                    self.refused(Broken, "index", 0, desk.promise, wish)
                    self.refused(Broken, "index", 0, desk.promise, wish=wish)
                    self.assertEqual((desk.promises, desk.changes), ((), 0))

    def test_how_few(self):
        for text in FEW + MANY:
            board = Board.read(text)
            desk = Desk(Notes(board))
            self.refused(Broken, "index", 0, desk.promise, ("few", len(board) - 1))
            self.refused(Broken, "index", 0, desk.promise, ("few", 0))
            desk.promise(("few", len(board)))
            desk.promise(("few", 48))
            self.assertEqual(len(open_settings(desk.notes)), len(board))
        self.assertEqual(len(Board.read("32222")), 48)

    def test_all_wishes_by_all_orders(self):
        rng = Random(4)
        seen = {True: 0, False: 0}
        for text in FEW:
            board = Board.read(text)
            wishes = [("one",), ("smooth",), *[("open", one) for one in board.settings],
                      *[("few", many) for many in range(8)],
                      *[("rises", one, other) for one in board.settings
                        for other in board.settings if one != other]]
            for _ in range(12):
                notes = Notes(board, drawn_facts(rng, drawn_order(rng, board)))
                orders = fitting_orders(notes)
                for wish in wishes:
                    holds = wish_holds(orders, wish)
                    seen[holds] += 1
                    desk = Desk(notes)
                    if holds:
                        desk.promise(wish)
                    else:
                        self.refused(Broken, "index", 0, desk.promise, wish)
        self.assertGreater(min(seen.values()), 300)


class Trials(DeskCase):
    def test_a_trial_that_ends_well(self):
        desk = Desk(SOME)
        with desk.trial() as held:
            self.assertIs(held, desk)
            held.tell("11", "10")
            desk.promise(("one",))
        self.assertEqual((desk.notes, desk.promises, desk.changes), (FULL, (("one",),), 2))

    def test_a_trial_that_ends_with_an_exception(self):
        desk = Desk(SOME)
        desk.promise(("few", 3))
        sign = Sign("x")
        with self.assertRaises(Sign) as caught:
            with desk.trial():
                desk.tell("11", "10")
                desk.promise(("one",))
                desk.lift(0)
                raise sign
        self.assertIs(caught.exception, sign)
        self.assertEqual((desk.notes, desk.promises, desk.changes), (SOME, (("few", 3),), 1))
        desk.undo()
        self.assertEqual((desk.promises, desk.changes), ((), 0))

    def test_each_kind_of_exception(self):
        for error in (KeyboardInterrupt, SystemExit, GeneratorExit, StopIteration, KeyError, Sign):
            desk = Desk(SOME)
            with self.assertRaises(error):
                with desk.trial():
                    desk.tell("11", "10")
                    raise error()
            self.assertEqual((desk.notes, desk.changes), (SOME, 0))

    def test_a_refused_call_within(self):
        desk = Desk(SOME)
        with self.assertRaises(Broken):
            with desk.trial():
                desk.tell("10", "11")
                desk.promise(("one",))
        self.assertEqual((desk.notes, desk.changes), (SOME, 0))
        with desk.trial():
            desk.tell("11", "10")
            self.refused(Broken, "index", 0, desk.promise, ("open", "11"))
        self.assertEqual((desk.notes, desk.changes), (FULL, 1))

    def test_undo_within_a_trial(self):
        # Also of changes that were made ahead of it.
        desk = Desk(SOME)
        desk.tell("11", "10")
        desk.promise(("one",))
        with self.assertRaises(Sign):
            with desk.trial():
                desk.undo()
                desk.undo()
                desk.tell("10", "11")
                raise Sign()
        self.assertEqual((desk.notes, desk.promises, desk.changes), (FULL, (("one",),), 2))
        with desk.trial():
            desk.undo()
            desk.undo()
            desk.tell("10", "11")
        self.assertEqual((desk.notes.facts[3], desk.changes), (("10", "11"), 1))
        desk.undo()
        self.assertEqual((desk.notes, desk.changes), (SOME, 0))

    def test_trials_within_trials(self):
        desk = Desk(Notes(SMALL))
        with desk.trial():
            desk.tell("00", "01")
            with self.assertRaises(Sign):
                with desk.trial() as held:
                    self.assertIs(held, desk)
                    desk.tell("01", "11")
                    with desk.trial():
                        desk.tell("11", "10")
                    self.assertEqual(desk.changes, 3)
                    raise Sign()
            self.assertEqual((desk.notes.facts, desk.changes), ((("00", "01"),), 1))
            desk.tell("11", "01")
        self.assertEqual((len(desk.notes), desk.changes), (2, 2))
        with self.assertRaises(Sign):
            with desk.trial():
                with desk.trial():
                    desk.forget(0)
                desk.undo()
                desk.undo()
                raise Sign()
        self.assertEqual((len(desk.notes), desk.changes), (2, 2))

    def test_rows_that_leave_by_return_break_or_continue(self):
        desk = Desk(Notes(SMALL))

        def leave():
            with desk.trial():
                desk.tell("00", "01")
                return desk.changes

        self.assertEqual(leave(), 1)
        for pair in (("01", "11"), ("11", "10"), ("00", "10")):
            with desk.trial():
                desk.tell(*pair)
                if pair[0] == "11":
                    break
                continue
        self.assertEqual((len(desk.notes), desk.changes), (3, 3))

    def test_a_call_alone_changes_nothing(self):
        desk = Desk(SOME)
        trial = desk.trial()
        self.assertEqual((desk.notes, desk.promises, desk.changes), (SOME, (), 0))
        desk.tell("11", "10")
        # What counts is the desk when the rows begin, not when the trial was made.
        with self.assertRaises(Sign):
            with trial:
                desk.undo()
                raise Sign()
        self.assertEqual((desk.notes, desk.changes), (FULL, 1))

    def test_one_after_another(self):
        desk = Desk(SOME)
        for _ in range(3):
            with self.assertRaises(Sign):
                with desk.trial():
                    desk.tell("11", "10")
                    raise Sign()
        with desk.trial():
            pass
        self.assertEqual((desk.notes, desk.changes), (SOME, 0))

    def test_tried(self):
        desk = Desk(SOME)
        told = object()

        def well(held):
            self.assertIs(held, desk)
            held.tell("11", "10")
            return told

        def badly(held):
            held.promise(("one",))
            held.forget(0)
            raise KeyError(held)

        self.assertIs(desk.tried(well), told)
        self.assertEqual((desk.notes, desk.changes), (FULL, 1))
        with self.assertRaises(KeyError) as caught:
            desk.tried(badly)
        self.assertIs(caught.exception.args[0], desk)
        self.assertEqual((desk.notes, desk.promises, desk.changes), (FULL, (), 1))
        self.assertIsNone(desk.tried(action=lambda held: held.undo()))
        self.assertEqual((desk.notes, desk.changes), (SOME, 0))
        self.assertEqual(desk.tried(lambda held: held.tried(lambda same: same.changes)), 0)
        self.assertIsNone(desk.tried(lambda held: None))

    def test_a_trial_of_one_desk_leaves_another_one(self):
        desk, other = Desk(SOME), Desk(SOME)
        with self.assertRaises(Sign):
            with desk.trial():
                desk.tell("11", "10")
                other.tell("10", "11")
                raise Sign()
        self.assertEqual((desk.changes, other.changes), (0, 1))


class Objects(Case):
    def test_equal_to_itself_alone(self):
        desk, other = Desk(SOME), Desk(SOME)
        self.assertIs(desk == desk, True)
        self.assertIs(desk != desk, False)
        self.assertIs(desk == other, False)
        self.assertIs(desk != other, True)
        for value in [*NO_NOTES, SOME, str(SOME), SOME.facts, Desk, AlwaysEqual()]:
            self.assertIs(desk == value, False)
            self.assertIs(desk != value, True)
        self.assertIn(desk, [other, desk])
        desk.tell("11", "10")
        other.tell("11", "10")
        self.assertIs(desk == other, False)
        self.assertIs(desk == desk, True)
        desk.undo()
        with desk.trial():
            self.assertIs(desk == other, False)

    def test_true(self):
        self.assertIs(bool(Desk(Notes(SMALL))), True)
        self.assertIs(bool(Desk(Notes(SMALL)).trial()), True)

    def test_desks_of_the_same_notes_are_led_apart(self):
        desk, other = Desk(SOME), Desk(notes=SOME)
        desk.tell("11", "10")
        self.assertEqual((other.notes, other.changes), (SOME, 0))
        self.assertIs(other.notes, SOME)

    def test_by_name(self):
        desk = Desk(notes=SOME)
        self.assertIsNone(desk.tell(better="10", worse="11"))
        self.assertIsNone(desk.promise(wish=("one",)))
        self.assertIsNone(desk.lift(index=0))
        self.assertIsNone(desk.forget(index=3))
        self.assertEqual((desk.notes, desk.changes), (SOME, 4))

    def test_properties_cannot_be_assigned(self):
        desk = Desk(SOME)
        for name in ("notes", "promises", "changes"):
            with self.assertRaises(AttributeError):
                setattr(desk, name, SOME)


class WrongValues(DeskCase):
    def setUp(self):
        self.desk = Desk(FULL)
        self.desk.promise(("one",))
        self.desk.promise(("few", 1))

    def tearDown(self):
        self.assertEqual(
            (self.desk.notes, self.desk.promises, self.desk.changes),
            (FULL, (("one",), ("few", 1)), 2))

    def test_no_notes(self):
        for value in NO_NOTES:
            with self.subTest(repr(value)):
                self.refused(NotNotes, "given", value, Desk, value)
                self.refused(NotNotes, "given", value, Desk, notes=value)

    def test_no_settings(self):
        tell = self.desk.tell
        for value in NO_SETTINGS:
            with self.subTest(repr(value)):
                self.refused(UnknownSetting, "given", value, tell, value, "00")
                self.refused(UnknownSetting, "given", value, tell, "00", value)
                self.refused(UnknownSetting, "given", value, tell, value, "wrong")
                self.refused(UnknownSetting, "given", value, tell, value, value)
                self.refused(UnknownSetting, "given", value, tell, better=value, worse="00")
                self.refused(UnknownSetting, "given", value, tell, better=None, worse=value)

    def test_no_facts(self):
        for pair in [("00", "00"), ("00", "11"), ("11", "00"), ("01", "00"), ("00", "01"),
                     ("10", "11")]:
            self.refused_pair(InvalidFact, pair, self.desk.tell, *pair)

    def test_no_indexes(self):
        for value in NO_INDEXES:
            with self.subTest(repr(value)):
                self.refused(InvalidIndex, "given", value, self.desk.forget, value)
                self.refused(InvalidIndex, "given", value, self.desk.forget, index=value)
                self.refused(InvalidIndex, "given", value, self.desk.lift, value)
                self.refused(InvalidIndex, "given", value, self.desk.lift, index=value)
        for index in (4, 5):
            self.refused(InvalidIndex, "given", index, self.desk.forget, index)
        for index in (2, 3):
            self.refused(InvalidIndex, "given", index, self.desk.lift, index)
        self.refused(Broken, "index", 0, self.desk.forget, 3)

    def test_no_wishes(self):
        for value in NO_WISHES:
            with self.subTest(repr(value)):
                self.refused(InvalidWish, "given", value, self.desk.promise, value)
                self.refused(InvalidWish, "given", value, self.desk.promise, wish=value)

    def test_settings_of_another_board(self):
        desk = Desk(Notes(Board((3,))))
        for value in (("open", "00"), ("rises", "0", "3"), ("rises", "00", "01")):
            self.refused(InvalidWish, "given", value, desk.promise, value)
        self.assertIsNone(desk.promise(("open", "2")))


if __name__ == "__main__":
    unittest.main()
