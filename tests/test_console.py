"""Tests of switchhills.console."""

import unittest
from random import Random

from support import (
    AlwaysEqual, Case, FEW, MANY, NO_NOTES, NO_STRINGS, drawn_notes, neighbour_pairs,
)
from switchhills import console as module
from switchhills.boards import Board
from switchhills.console import Console
from switchhills.desks import Desk
from switchhills.errors import (
    Broken, InvalidCommand, InvalidFact, InvalidIndex, InvalidWish, NothingToUndo, NotNotes,
    UnknownSetting, WrongValue,
)
from switchhills.notes import Notes
from switchhills.peaks import one_peak, open_settings, sure_peaks
from switchhills.squares import is_smooth
from switchhills.ways import ends, may_way

SMALL = Board((2, 2))
SOME = Notes(SMALL, (("01", "00"), ("10", "00"), ("01", "11")))
FULL = SOME.told("11", "10")

# Each form with settings of the board 22.
FORMS = (
    "tell 11 10", "forget 0", "undo", "lift 0", "promise one", "promise smooth", "promise open 00",
    "promise rises 01 00", "promise few 2", "known 01 11", "open", "sure", "ends 01", "one",
    "smooth", "way 01 10", "asks",
)

NO_COMMANDS = [
    *NO_STRINGS, "", " ", "\n", "ok", "help", "quit", "Open", "OPEN", "opens", "ope", "open 00", "open ",
    "tell", "tell 11", "tell 11 10 00", "tell 11, 10", "tell 11 < 10", "tell a b", "tell 11 1o",
    "tell -1 10", "tell +1 10", "tell 1_1 10", "tell 1.1 10", "tell 11 10 ", "tell (11) 10",
    "tell 111111111 10", "tell 11 000000000", "tell  10", "tell 11 ", "told 11 10",
    "forget", "forget -1", "forget +1", "forget 00", "forget 01", "forget 000000000",
    "forget 100000000", "forget 1 2", "forget x", "forget 1.0", "forget 0x1", "forget 1_0",
    "forget ", "forget one", "undo 1", "undo undo", "lift", "lift 00", "lift 01", "lift -1",
    "lift 0 0", "lift 123456789", "promise", "promise ", "promise two", "promise One",
    "promise one one", "promise smooth 1", "promise open", "promise open 00 01", "promise open x",
    "promise open 000000000", "promise rises", "promise rises 00", "promise rises 00 01 11",
    "promise rises 000000000 01", "promise rises 00 000000000", "promise few", "promise few 01",
    "promise few 00", "promise few -1", "promise few 1 1", "promise few 123456789",
    "promise few x", "promise  one", "promise none", "promiseone", "promise sure", "promise asks",
    "promise known 00 01", "one promise", "known", "known 00", "known 00 01 10", "known 00 x",
    "known 123456789 00", "known 00 123456789", "sure 00", "ends", "ends 00 01", "ends x",
    "ends 123456789", "ends ", "one 1", "smooth smooth", "way", "way 00", "way 00 01 10",
    "way 00  01", "way x 00", "way 00 123456789", "asks 1", "ask", "asks?", "few 2", "rises 01 00",
    "tell\n11 10", "tell 11\n10", "promise\none", "open\nopen", "known 01\t11", "open;", "#open",
    "'open'", "board 22", "accepts", "rises", "few", "two",
]


class Example(Case):
    def test_the_example_of_the_document(self):
        console = Console(SOME)
        self.assertEqual(
            [console.say("open"), console.say("sure"), console.say("one"),
             console.say("known 01 11"), console.say("ends 10"), console.say("asks"),
             console.say("tell 11 10"), console.say("one"), console.say("promise smooth")],
            ['00 11', '00', 'no', 'worse', '00 11', '1', 'ok', 'yes', 'ok'])
        self.assertEqual(
            [console.say("smooth"), console.say("way 01 10"), console.say("way 00 11"),
             console.say("undo"), console.say("undo"), console.say("smooth")],
            ['yes', '01 11 10', 'none', 'ok', 'ok', 'no'])

    def test_defined_in_the_class_itself(self):
        self.assertEqual(Console.__module__, module.__name__)
        for name in ("__init__", "say", "desk"):
            self.assertIn(name, vars(Console))
        self.assertIsInstance(vars(Console)["desk"], property)


class Changes(Case):
    def setUp(self):
        self.console = Console(SOME)
        self.desk = self.console.desk

    def says(self, command, answer="ok"):
        told = self.console.say(command)
        self.assertIs(type(told), str)
        self.assertEqual(told, answer)

    def test_telling_and_forgetting(self):
        self.says("tell 11 10")
        self.assertEqual((self.desk.notes, self.desk.changes), (FULL, 1))
        self.says("forget 3")
        self.says("forget 0")
        self.assertEqual(self.desk.notes.facts, (("10", "00"), ("01", "11")))
        self.assertEqual(self.desk.changes, 3)

    def test_each_promise_and_lifting(self):
        self.says("tell 11 10")
        wishes = [("one",), ("smooth",), ("open", "00"), ("rises", "01", "00"), ("few", 1)]
        for wish in wishes:
            self.says(" ".join(["promise", *map(str, wish)]))
        self.assertEqual(self.desk.promises, tuple(wishes))
        self.assertIs(type(self.desk.promises[4][1]), int)
        self.says("lift 4")
        self.says("lift 1")
        self.assertEqual(self.desk.promises, (("one",), ("open", "00"), ("rises", "01", "00")))
        self.says("promise few 48")
        self.assertEqual((self.desk.promises[-1], self.desk.changes), (("few", 48), 9))

    def test_undoing(self):
        self.says("tell 11 10")
        self.says("promise one")
        self.says("undo")
        self.assertEqual((self.desk.promises, self.desk.changes), ((), 1))
        self.says("undo")
        self.assertIs(self.desk.notes, SOME)
        with self.assertRaises(NothingToUndo):
            self.console.say("undo")
        self.assertEqual(self.desk.changes, 0)

    def test_a_board_with_an_index_of_two_digits(self):
        console = Console(Notes(Board.read("32222")))
        pairs = neighbour_pairs(console.desk.notes.board.settings)
        for low, high in pairs[:13]:
            self.assertEqual(console.say(f"tell {low} {high}"), "ok")
        self.assertEqual(console.say("forget 10"), "ok")
        self.assertEqual(console.desk.notes.facts, tuple([*pairs[:10], *pairs[11:13]]))
        self.assertEqual(console.say("promise few 48"), "ok")

    def test_the_desk_is_one_and_the_same(self):
        self.assertIs(type(self.desk), Desk)
        self.assertIs(self.console.desk, self.desk)
        self.assertIs(self.desk.notes, SOME)
        self.desk.tell("11", "10")
        self.says("one", "yes")
        self.says("promise one")
        self.assertEqual(self.desk.promises, (("one",),))
        self.desk.undo()
        self.says("undo")
        self.says("one", "no")
        self.assertIs(self.console.desk, self.desk)

    def test_within_a_trial(self):
        with self.assertRaises(Broken):
            with self.desk.trial():
                self.says("tell 10 11")
                self.says("promise few 2")
                self.console.say("promise one")
        self.assertEqual((self.desk.notes, self.desk.promises, self.desk.changes), (SOME, (), 0))


class Answers(Case):
    def check(self, console):
        notes = console.desk.notes
        wanted = {
            "open": " ".join(open_settings(notes)), "sure": " ".join(sure_peaks(notes)),
            "one": "yes" if one_peak(notes) else "no",
            "smooth": "yes" if is_smooth(notes) else "no", "asks": str(len(notes.pairs())),
        }
        settings = notes.board.settings
        for start in settings[:3] + settings[-2:]:
            wanted[f"ends {start}"] = " ".join(ends(notes, start))
            for goal in settings[1:3] + settings[-2:]:
                wanted[f"known {start} {goal}"] = notes.known(start, goal)
                row = may_way(notes, start, goal)
                wanted[f"way {start} {goal}"] = "none" if row is None else " ".join(row)
        before = console.desk.notes, console.desk.promises, console.desk.changes
        for command, answer in wanted.items():
            told = console.say(command)
            self.assertIs(type(told), str)
            self.assertEqual(told, answer)
        self.assertEqual(
            (console.desk.notes, console.desk.promises, console.desk.changes), before)

    def test_what_the_notes_tell(self):
        rng = Random(1)
        for text in FEW + MANY:
            board = Board.read(text)
            for notes in [Notes(board), *[drawn_notes(rng, board) for _ in range(3)]]:
                self.check(Console(notes))

    def test_the_answers_follow_the_changes(self):
        console = Console(Notes(SMALL))
        for command in ("tell 01 00", "tell 10 00", "tell 01 11", "tell 11 10", "undo", "forget 1"):
            self.assertEqual(console.say(command), "ok")
            self.check(console)

    def test_words(self):
        console = Console(SOME)
        for command, answer in [
            ("known 01 00", "worse"), ("known 00 01", "better"), ("known 00 00", "same"),
            ("known 10 11", "open"), ("way 00 00", "00"), ("ends 00", "00"), ("way 11 01", "none"),
        ]:
            self.assertEqual(console.say(command), answer)
        # No setting is a sure peak: the empty string.
        self.assertEqual(Console(Notes(SMALL)).say("sure"), "")
        self.assertEqual(Console(Notes(SMALL)).say("open"), "00 01 10 11")
        self.assertEqual(Console(Notes(SMALL)).say("asks"), "4")
        self.assertEqual(Console(Notes(Board((2,)))).say("way 1 0"), "1 0")


class Turns(Case):
    """A console and its desk used by turns, beside a desk alone."""

    def command(self, rng, board):
        one, other = rng.sample(board.settings, 2)
        number = rng.randrange(6)
        return rng.choice([
            (f"tell {one} {other}", "tell", (one, other)),
            (f"forget {number}", "forget", (number,)),
            (f"lift {number}", "lift", (number,)),
            ("undo", "undo", ()),
            ("promise one", "promise", (("one",),)),
            ("promise smooth", "promise", (("smooth",),)),
            (f"promise open {one}", "promise", (("open", one),)),
            (f"promise rises {one} {other}", "promise", (("rises", one, other),)),
            (f"promise few {number}", "promise", (("few", number),)),
            (f"promise few {number + 45}", "promise", (("few", number + 45),)),
        ])

    def outcome(self, call, *args):
        try:
            return call(*args)
        except Exception as error:
            return type(error), vars(error)

    def test_by_turns(self):
        rng = Random(2)
        refused = 0
        for text in FEW + ("222", "332"):
            for _ in range(6):
                notes = drawn_notes(rng, Board.read(text))
                console, twin = Console(notes), Desk(notes)
                for _ in range(40):
                    command, name, args = self.command(rng, notes.board)
                    wanted = self.outcome(getattr(twin, name), *args)
                    if rng.random() < 0.5:
                        told = self.outcome(console.say, command)
                        self.assertEqual(told, "ok" if wanted is None else wanted)
                    else:
                        self.assertEqual(self.outcome(getattr(console.desk, name), *args), wanted)
                    refused += wanted is not None
                    desk = console.desk
                    self.assertEqual((desk.notes, desk.promises, desk.changes),
                                     (twin.notes, twin.promises, twin.changes))
        self.assertGreater(refused, 200)


class Errors(Case):
    def setUp(self):
        self.console = Console(FULL)
        self.console.say("promise one")
        self.console.say("promise open 00")

    def tearDown(self):
        desk = self.console.desk
        self.assertEqual(
            (desk.notes, desk.promises, desk.changes), (FULL, (("one",), ("open", "00")), 2))

    def test_settings(self):
        for command, given in [
            ("tell 9 8", "9"), ("tell 00 8", "8"), ("tell 12345678 00", "12345678"),
            ("known 0 00", "0"), ("known 00 02", "02"), ("ends 000", "000"), ("way 3 4", "3"),
            ("way 00 00000000", "00000000"), ("ends 99999999", "99999999"),
        ]:
            with self.subTest(command), self.assertRaises(UnknownSetting) as caught:
                self.console.say(command)
            self.assertEqual(caught.exception.given, given)

    def test_facts(self):
        for pair in (("00", "00"), ("00", "11"), ("01", "00"), ("00", "01"), ("10", "11")):
            with self.subTest(pair), self.assertRaises(InvalidFact) as caught:
                self.console.say("tell " + " ".join(pair))
            self.assertEqual(caught.exception.given, pair)

    def test_indexes(self):
        for word, index in [("forget", 4), ("forget", 10), ("forget", 99999999), ("lift", 2),
                            ("lift", 12345678)]:
            with self.subTest(word), self.assertRaises(InvalidIndex) as caught:
                self.console.say(f"{word} {index}")
            self.assertEqual(caught.exception.given, index)
            self.assertIs(type(caught.exception.given), int)

    def test_wishes(self):
        for wish in [("open", "0"), ("open", "02"), ("rises", "00", "00"), ("rises", "00", "5"),
                     ("rises", "12345678", "00"), ("few", 49), ("few", 99999999)]:
            with self.subTest(wish), self.assertRaises(InvalidWish) as caught:
                self.console.say(" ".join(["promise", *map(str, wish)]))
            self.assertEqual(caught.exception.given, wish)
            self.assertIs(type(caught.exception.given), tuple)
            self.assertEqual([type(part) for part in caught.exception.given],
                             [type(part) for part in wish])

    def test_broken_promises(self):
        for command, index in [("forget 3", 0), ("promise few 0", 2), ("promise open 11", 2),
                               ("promise rises 00 01", 2)]:
            with self.subTest(command), self.assertRaises(Broken) as caught:
                self.console.say(command)
            self.assertEqual(caught.exception.index, index)

    def test_no_commands(self):
        for value in NO_COMMANDS:
            with self.subTest(repr(value)):
                self.refused(InvalidCommand, "given", value, self.console.say, value)
                self.refused(InvalidCommand, "given", value, self.console.say, command=value)

    def test_forms_that_are_almost_right(self):
        for form in FORMS:
            words = form.split(" ")
            wrong = [" " + form, form + " ", form + "\n", "\n" + form, form + "\t", "  " + form,
                     form.replace(" ", "  ", 1) + " ", form + " 0", form + " one", form.upper(),
                     form.title(), "x" + form, form + ",", form.encode(), [form], (form,), words,
                     tuple(words), {form: 1}, AlwaysEqual(), form + "\n" + form, form[:-1] + "x"]
            wrong += [form[:at] + "  " + form[at + 1:] for at in range(len(form)) if form[at] == " "]
            wrong += [form[:at] + "\n" + form[at + 1:] for at in range(len(form)) if form[at] == " "]
            wrong += [" ".join(words[:-1]), " ".join(words[1:])]
            for value in wrong:
                # Some of these are other forms.
                if value not in ("one", "smooth"):
                    with self.subTest(repr(value)):
                        self.refused(InvalidCommand, "given", value, self.console.say, value)

    def test_eight_and_nine_digits(self):
        for command in ("tell {} 00", "tell 00 {}", "promise open {}", "promise rises {} 00",
                        "promise rises 00 {}", "known {} 00", "known 00 {}", "ends {}", "way {} 00",
                        "way 00 {}", "forget {}", "lift {}", "promise few {}"):
            for digits in ("1" * 8, "9" * 8, "12345678"):
                with self.subTest((command, digits)):
                    with self.assertRaises((WrongValue, UnknownSetting)) as caught:
                        self.console.say(command.format(digits))
                    self.assertNotIsInstance(caught.exception, InvalidCommand)
                    given = command.format(digits + "1")
                    self.refused(InvalidCommand, "given", given, self.console.say, given)


class Objects(Case):
    def test_no_notes(self):
        for value in NO_NOTES:
            with self.subTest(repr(value)):
                self.refused(NotNotes, "given", value, Console, value)
                self.refused(NotNotes, "given", value, Console, notes=value)

    def test_by_name(self):
        console = Console(notes=SOME)
        self.assertEqual(console.say(command="open"), "00 11")

    def test_equal_to_no_other_value(self):
        console = Console(SOME)
        for value in [*NO_NOTES, SOME, console.desk, Console(SOME), Console]:
            self.assertIs(console == value, False)
            self.assertIs(console != value, True)
        self.assertIs(console == console, True)

    def test_true(self):
        self.assertIs(bool(Console(Notes(SMALL))), True)

    def test_the_desk_cannot_be_assigned(self):
        with self.assertRaises(AttributeError):
            Console(SOME).desk = Desk(SOME)

    def test_consoles_are_led_apart(self):
        console, other = Console(SOME), Console(SOME)
        console.say("tell 11 10")
        self.assertEqual((console.say("asks"), other.say("asks")), ("0", "1"))
        self.assertIs(console.desk == other.desk, False)


if __name__ == "__main__":
    unittest.main()
