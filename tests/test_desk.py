"""Points [65] to [68]: the desk."""

from copy import deepcopy
from random import Random

from tests.checks import Checks
from tests.years import ABLE, LONG, UNABLE, fault_by_moves
from villagelines.desk.desk import Desk
from villagelines.errors import BadLimit, BadNote, BadText, Full, NoSuch, NothingLeft, RowRefused
from villagelines.years.ask import ask, newcomers_now, possible_placings
from villagelines.years.diary import Diary
from villagelines.years.notation import read_note

BEGIN = "at 0 come ann 3 in 0\nat 0 come bob 2 in 1\nat 1 open red 5 with 0 1"
NO_FORMS = [
    "", " ", "at", "at 0", "at 0 come ann 3", "at 0 come ann 3 in 0 ", " at 0 ran red", "at 0 ran Red", "at 00 ran red",
    "drop", "drop ", "drop x", "drop -1", "drop 01", "drop 1 2", "drop  1", "Drop 1", "undo ", " undo", "undo 1", "Undo",
    "redo ", "redo 1", "undone", "ask", "ask ", "ask meet", "ask meet ann", "ask meet ann bob eve", "ask meet ann 1",
    "ask meet  ann bob", "ask meet Ann bob", "ask meet ann abcdefghijklm", "ask live ann", "ask live ann bob",
    "ask live 0 ann", "ask live ann 00", "ask live ann -1", "ask live ann 0 0", "ask run", "ask run 0", "ask run red red",
    "ask newcomers", "ask newcomers 0 ann", "ask newcomers ann 0 bob", "ask newcomers 00 ann bob",
    "ask newcomers 0 ann bob eve", "ask places 0", "ask places ", "ask fault 0", "ask faults", "asks fault",
    "ask MEET ann bob", "noted 0", "undo\n", "ask fault\n", "undo\nundo", "\n", "at 0 ran red\n", "drop 0\n",
]


def shown(desk):
    return desk.texts, desk.fault, desk.limit, len(desk), desk.villages


def shown_by_steps(desk, word):
    """What a copy of the desk shows after undoing or redoing once, twice and so on."""
    other, found = deepcopy(desk), []
    while True:
        try:
            found.append((other.say(word), shown(other)))
        except NothingLeft:
            return found


def told(desk):
    """All that a desk tells of itself, with what undoing and redoing to the end would bring."""
    return shown(desk), shown_by_steps(desk, "undo"), shown_by_steps(desk, "redo")


class TestAnswers(Checks):

    def test_interface(self):
        desk = Desk(2)
        self.assert_is(desk.run("at 0 come ann 3 in 0\nat 0 come bob 2 in 1\nask meet ann bob"),
                       ['noted 0', 'noted 1', 'no'])
        self.assert_is(desk.run("at 1 open red 6 with 0 1\nask newcomers 1 ann bob\nat 2 ran red"),
                       ['noted 2', '1', 'noted 3 fault 3'])
        self.assert_is(desk.run("undo\nask fault\nask places"), ['undone', 'none', '1'])

    def test_no_notes(self):
        desk = Desk(3)
        self.assert_is(shown(desk), ([], None, 10, 0, 3))
        self.assert_is(desk.run("ask places\nask fault\nask run red\nask meet ann bob"),
                       ["1", "none", "unknown red", "unknown ann"])

    def test_noted(self):
        desk = Desk(2)
        self.assert_is(desk.run("at 5 come ann 3 in 0\nat 7 come bob 2 in 1\nat 5 open red 5 with 0 1\nat 0 stood red"),
                       ["noted 0", "noted 1", "noted 1", "noted 0 fault 0"])
        self.assert_is(desk.texts, ["at 0 stood red", "at 5 come ann 3 in 0", "at 5 open red 5 with 0 1",
                                    "at 7 come bob 2 in 1"])

    def test_dropped(self):
        desk = Desk(2)
        desk.run(f"{BEGIN}\nat 2 ran red")
        self.assert_is(desk.run("drop 3\ndrop 0\ndrop 1\ndrop 0"), ["dropped"] * 4)
        self.assert_is(desk.texts, [])

    def test_fault_at_the_end_of_an_answer(self):
        desk = Desk(2)
        self.assert_is(desk.run("at 3 ran red\nat 1 ran red\nat 0 open red 1 with 0 1"),
                       ["noted 0 fault 0", "noted 0 fault 0", "noted 0 fault 1"])
        self.assert_is(desk.run("at 0 come ann 1 in 0\nundo\nredo\ndrop 1\nundo"),
                       ["noted 1", "undone fault 1", "redone", "dropped fault 1", "undone"])
        self.assert_is(desk.fault, None)

    def test_asks(self):
        desk = Desk(3)
        desk.run(BEGIN)
        self.assert_is(desk.run("ask meet ann bob\nask live ann 1\nask live ann 2\nask run red\nask places"),
                       ["yes", "yes", "no", "yes", "4"])
        desk.run("at 2 close red\nat 3 open sea 6 with 0 1")
        self.assert_is(desk.run("ask meet ann bob\nask meet ann ann\nask live ann 0\nask live ann 2\nask run sea"),
                       ["open", "yes", "open", "no", "no"])
        self.assert_is(desk.run("ask newcomers 0 ann bob\nask newcomers 2 ann bob\nask newcomers 2 bob bob"),
                       ["0 1", "0 never", "0"])

    def test_newcomers_that_are_never_enough(self):
        desk = Desk(2)
        desk.run("at 0 come ann 3 in 0\nat 0 come bob 2 in 1")
        self.assert_is(desk.say("ask newcomers 0 ann bob"), "never")

    def test_asks_change_nothing(self):
        desk = Desk(3)
        desk.run(f"{BEGIN}\nundo")
        before = told(desk)
        for row in ("ask meet ann bob", "ask live ann 1", "ask run red", "ask newcomers 0 ann bob", "ask places",
                    "ask fault", "ask meet x y"):
            desk.say(row)
            self.assert_is(told(desk), before)

    def test_asks_of_a_diary_that_cannot_be(self):
        desk = Desk(2)
        desk.run(f"{BEGIN}\nat 2 stood red")
        for row in ("ask meet ann bob", "ask live ann 1", "ask run red", "ask newcomers 0 ann bob", "ask places",
                    "ask meet x y", "ask live ann 7", "ask run x"):
            self.assert_is(desk.say(row), "fault 3")
        self.assert_is(desk.say("ask fault"), "3")

    def test_unknown(self):
        desk = Desk(2)
        desk.run(BEGIN)
        for row, word in (("meet x ann", "x"), ("meet ann y", "y"), ("meet x y", "x"), ("meet red ann", "red"),
                          ("live x 0", "x"), ("live ann 2", "2"), ("live x 2", "x"), ("live ann 77", "77"),
                          ("run ann", "ann"), ("run blue", "blue"), ("newcomers 2 x y", "2"), ("newcomers 0 x y", "x"),
                          ("newcomers 1 ann y", "y"), ("newcomers 5 ann bob", "5")):
            self.assert_is(desk.say(f"ask {row}"), f"unknown {word}")
        self.assert_is(desk.say(f"ask live ann {10 ** 59}"), f"unknown {10 ** 59}")

    def test_families_and_lines_that_are_gone(self):
        desk = Desk(2)
        desk.run(f"{BEGIN}\nat 2 leave bob from 0\nat 2 close red")
        self.assert_is(desk.run("ask meet ann bob\nask run red\nask live ann 0"), ["unknown bob", "unknown red", "open"])

    def test_every_diary(self):
        for diary in ABLE[::6] + UNABLE[::12]:
            desk = Desk(diary.villages)
            for note in diary.notes:
                index = len(desk)
                fault = fault_by_moves(Diary.of(diary.villages, *diary.notes[:index + 1]))
                self.assert_is(desk.say(note.text()), f"noted {index}" + ("" if fault is None else f" fault {fault}"))
                self.assert_is((desk.fault, len(desk)), (fault, index + 1))
            self.assert_is(desk.texts, [note.text() for note in diary.notes])
            if desk.fault is None:
                self.assert_answers(desk, diary)

    def assert_answers(self, desk, diary):
        """The desk answers as the diary does."""
        self.assert_is(desk.say("ask places"), str(len(possible_placings(diary))))
        self.assert_is(desk.say("ask fault"), "none")
        for name, other in (("ann", "bob"), ("cid", "ann"), ("ann", "ann")):
            if "unknown" not in desk.say(f"ask meet {name} {other}"):
                self.assert_is(desk.say(f"ask meet {name} {other}"), ask(diary, ("meet", name, other))[0])
                self.assert_is(desk.say(f"ask live {name} 1"), ask(diary, ("live", name, 1))[0])
                counts = ["never" if count is None else str(count) for count in newcomers_now(diary, 1, name, other)]
                self.assert_is(desk.say(f"ask newcomers 1 {name} {other}"), " ".join(counts))


class TestRefusals(Checks):

    def refused(self, desk, row, error, *fields):
        """The row is refused with this error, and nothing changes."""
        before = told(desk)
        with self.subTest(row=row):
            self.assert_raises(error, fields, desk.say, row)
            self.assert_is(told(desk), before)

    def test_form(self):
        desk = Desk(2)
        for row in NO_FORMS:
            self.refused(desk, row, BadText, 0, "form")
        desk.run(f"{BEGIN}\nundo")
        for row in NO_FORMS[::5]:
            self.refused(desk, row, BadText, 0, "form")

    def test_form_before_all_else(self):
        desk = Desk(2, 1)
        desk.run("at 0 stood red")
        self.refused(desk, "at 0 come ann 0 in x", BadText, 0, "form")
        self.refused(desk, "ask meet ann", BadText, 0, "form")
        self.refused(desk, "drop x", BadText, 0, "form")

    def test_notes(self):
        desk = Desk(2)
        desk.run(BEGIN)
        for row, why in (("at 0 come ann 0 in 0", "heads"), ("at 0 come ann 0 in 9", "heads"),
                         ("at 0 come eve 1 in 2", "village"), ("at 0 leave ann from 2", "village"),
                         ("at 0 open sea 0 with 0 1", "number"), ("at 0 open sea 1 with 0", "stops"),
                         ("at 0 open sea 1 with 1 0", "stops"), ("at 0 open sea 1 with 0 2", "village"),
                         ("at 0 counted 0 in 5", "village")):
            self.refused(desk, row, BadNote, why)

    def test_full(self):
        desk = Desk(2, 3)
        desk.run(BEGIN)
        self.refused(desk, "at 9 ran red", Full, 3)
        self.refused(desk, "at 0 come eve 0 in 0", BadNote, "heads")
        self.refused(desk, "at 0 come eve 1 in 2", BadNote, "village")
        self.assert_is(desk.run("drop 2\nat 9 stood red"), ["dropped", "noted 2 fault 2"])
        self.refused(desk, "at 9 ran red", Full, 3)

    def test_full_at_ten(self):
        desk = Desk(1)
        self.assert_is(desk.run("\n".join(["at 0 counted 0 in 0"] * 10)), [f"noted {at}" for at in range(10)])
        self.refused(desk, "at 0 counted 0 in 0", Full, 10)

    def test_drop(self):
        desk = Desk(2)
        self.refused(desk, "drop 0", NoSuch, 0, 0)
        desk.run(BEGIN)
        self.refused(desk, "drop 3", NoSuch, 3, 3)
        self.refused(desk, f"drop {10 ** 59}", NoSuch, 10 ** 59, 3)

    def test_nothing_left(self):
        desk = Desk(2)
        self.refused(desk, "undo", NothingLeft, "undo")
        self.refused(desk, "redo", NothingLeft, "redo")
        desk.run(BEGIN)
        self.refused(desk, "redo", NothingLeft, "redo")
        desk.run("undo\nundo\nundo")
        self.refused(desk, "undo", NothingLeft, "undo")
        desk.run("redo\nredo\nredo")
        self.refused(desk, "redo", NothingLeft, "redo")


class TestUndo(Checks):

    def test_a_drop_that_is_undone_and_redone(self):
        desk = Desk(2)
        desk.run(f"{BEGIN}\nat 1 ran red")
        before = desk.texts
        self.assert_is(desk.run("drop 1\nundo"), ["dropped fault 2", "undone"])
        self.assert_is(desk.texts, before)
        self.assert_is(desk.say("redo"), "redone fault 2")
        self.assert_is(desk.texts, [before[0], *before[2:]])
        self.assert_is(desk.run("undo\nundo\nredo\nredo"), ["undone", "undone", "redone", "redone fault 2"])

    def test_a_note_among_notes_of_its_moment(self):
        desk = Desk(2)
        desk.run("at 0 counted 0 in 0\nat 0 counted 0 in 1\nat 0 counted 0 in 0\ndrop 0")
        self.assert_is(desk.texts, ["at 0 counted 0 in 1", "at 0 counted 0 in 0"])
        desk.say("undo")
        self.assert_is(desk.texts, ["at 0 counted 0 in 0", "at 0 counted 0 in 1", "at 0 counted 0 in 0"])

    def test_what_was_redone_can_be_undone(self):
        desk = Desk(2)
        desk.run("at 0 counted 0 in 0\nundo\nredo\nundo\nredo")
        self.assert_is(len(desk), 1)
        self.assert_is(desk.run("undo\nredo\nundo"), ["undone", "redone", "undone"])
        self.assert_is(len(desk), 0)

    def test_a_new_note_or_drop_forgets_what_could_be_redone(self):
        for row in ("at 9 counted 0 in 0", "drop 0"):
            desk = Desk(2)
            desk.run(f"{BEGIN}\nundo\nundo")
            desk.say(row)
            self.assert_raises(NothingLeft, ("redo",), desk.say, "redo")
            self.assert_is(desk.say("undo"), "undone")
            self.assert_is(desk.texts, ["at 0 come ann 3 in 0"])

    def test_refused_rows_forget_nothing(self):
        desk = Desk(2, 3)
        desk.run(f"{BEGIN}\nundo")
        for row in ("at 9 come eve 0 in 0", "at 9 come eve 1 in 2", "drop 2", "x", "ask places"):
            try:
                desk.say(row)
            except (BadNote, BadText, NoSuch):
                pass
        self.assert_is(desk.say("redo"), "redone")

    def test_many_ways(self):
        for seed in range(60):
            draw = Random(seed)
            desk, past, future, notes = Desk(2, 6), [], [], []
            for _ in range(40):
                row = draw.choice(["note", "note", "drop", "undo", "undo", "redo"])
                if row == "note":
                    row = f"at {draw.randrange(4)} counted {draw.randrange(2)} in {draw.randrange(2)}"
                if row == "drop":
                    row = f"drop {draw.randrange(5)}"
                before = notes
                try:
                    desk.say(row)
                except Full:
                    self.assertGreaterEqual(len(notes), 6)
                except NoSuch:
                    self.assertGreaterEqual(int(row[5:]), len(notes))
                except NothingLeft:
                    self.assertEqual(past if row == "undo" else future, [])
                else:
                    if row == "undo":
                        future, notes = [*future, notes], past.pop()
                    elif row == "redo":
                        past, notes = [*past, notes], future.pop()
                    else:
                        past, future = [*past, before], []
                        if row.startswith("drop"):
                            notes = [*notes[:int(row[5:])], *notes[int(row[5:]) + 1:]]
                        else:
                            notes = sorted([*notes, row], key=lambda text: int(text.split(" ")[1]))
                self.assert_is(desk.texts, notes)
                diary = Diary.of(2, *map(read_note, notes))
                self.assert_is((desk.fault, len(desk)), (fault_by_moves(diary), len(notes)))


class TestRun(Checks):

    def test_each_row_has_its_answer(self):
        self.assert_is(Desk(2).run("ask fault"), ["none"])
        self.assert_is(Desk(2).run("at 0 counted 0 in 0\nundo\nredo\nask fault"),
                       ["noted 0", "undone", "redone", "none"])

    def test_the_empty_text(self):
        self.assert_raises(RowRefused, (0, "form"), Desk(2).run, "")
        self.assert_raises(RowRefused, (0, "form"), Desk(2).tried, "")
        self.assert_raises(RowRefused, (1, "form"), Desk(2).run, "ask fault\n")

    def test_refused_rows(self):
        desk = Desk(2, 4)
        desk.run(f"{BEGIN}\nat 9 ran red\ndrop 3\nundo\nundo\nat 7 ran red\nundo")
        before = told(desk)
        for text, row, word in (
            ("ask places\nx", 1, "form"), ("drop 0\nask", 1, "form"), ("at 5 come ann 0 in 0", 0, "note"),
            ("undo\nat 5 come ann 1 in 2", 1, "note"), ("at 5 ran red\nat 5 ran red", 1, "full"),
            ("drop 0\ndrop 0\ndrop 1", 2, "drop"), ("undo\nundo\nundo\nundo", 3, "undo"),
            ("redo\nredo", 1, "redo"), ("undo\nredo\nredo\nredo", 3, "redo"),
            ("at 5 ran red\nredo", 1, "redo"), ("undo\nredo\ndrop 0\nat 0 ran red\nask run red\nundo\nx", 6, "form"),
        ):
            for call in (desk.run, desk.tried):
                with self.subTest(text=text, call=call.__name__):
                    self.assert_raises(RowRefused, (row, word), call, text)
                    self.assert_is(told(desk), before)

    def test_what_comes_before_a_refused_row_is_taken_back(self):
        desk = Desk(2)
        self.assert_raises(RowRefused, (3, "undo"), desk.run, "at 0 counted 0 in 0\nundo\nask fault\nundo")
        self.assert_is((desk.texts, len(desk)), ([], 0))
        self.assert_raises(NothingLeft, ("redo",), desk.say, "redo")

    def test_tried(self):
        desk = Desk(2)
        desk.run(f"{BEGIN}\nundo")
        before = told(desk)
        for text in ("redo\nask meet ann bob", "undo\nundo", "drop 0\ndrop 0", "at 5 ran red\nask fault", "ask places"):
            answers = desk.tried(text)
            self.assert_is(told(desk), before)
            self.assert_is(desk.tried(text), answers)
            other = Desk(2)
            other.run(f"{BEGIN}\nundo")
            self.assert_is(other.run(text), answers)
        self.assert_is(desk.say("redo"), "redone")

    def test_lists_are_new(self):
        desk = Desk(2)
        for made in (desk.run(BEGIN), desk.texts, desk.tried("ask fault")):
            made.append("spoiled")
            made.reverse()
        self.assert_is(desk.texts, BEGIN.split("\n"))
        self.assert_is(desk.tried("ask fault"), ["none"])

    def test_short(self):
        desk = Desk(3)
        rows = ["at 0 come ann 1000000000000 in 0", "at 0 come bob 1000000000000 in 1",
                "at 0 come cid 1000000000000 in 2", "at 1 open red 1000000000000 with 0 1 2",
                "at 2 close red", "at 3 open sea 2000000000000 with 0 1", "at 3 open tin 2000000000000 with 1 2",
                "at 4 stood sea", "at 4 counted 2000000000000 in 2", "at 5 close sea", "ask places", "ask meet ann bob",
                "ask newcomers 0 ann cid"]
        answers = self.assert_short(desk.run, "\n".join(rows))
        self.assert_is(answers[:10], [f"noted {at}" for at in range(10)])
        for diary in LONG[:3]:
            desk = Desk(diary.villages)
            texts = [note.text() for note in diary.notes]
            self.assert_short(desk.run, "\n".join(texts + ["undo", "redo"] * 10))


class TestLimit(Checks):

    def test_properties(self):
        for name in ("texts", "fault", "limit"):
            self.assertIsInstance(vars(Desk)[name], property)
        self.assert_is((Desk(2).limit, Desk(2, 1).limit, Desk(2, limit=7).limit), (10, 1, 7))

    def test_set_limit(self):
        desk = Desk(2)
        desk.run(BEGIN)
        for value in (3, 10, 5):
            self.assert_is(desk.set_limit(value), None)
            self.assert_is(desk.limit, value)

    def test_bad_limits(self):
        desk = Desk(2, 4)
        for value in (0, -1, 11, 10 ** 12):
            self.assert_raises(BadLimit, (value,), desk.set_limit, value)
        desk.run(f"{BEGIN}\nundo")
        before = told(desk)
        for value in (1, 0, -5, 11):
            self.assert_raises(BadLimit, (value,), desk.set_limit, value)
            self.assert_is(told(desk), before)
        desk.set_limit(2)
        self.assert_is(desk.limit, 2)

    def test_a_limit_lowered(self):
        desk = Desk(2)
        desk.run(BEGIN)
        desk.set_limit(3)
        self.assert_raises(Full, (3,), desk.say, "at 9 ran red")
        self.assert_is(desk.run("drop 0\nat 9 counted 0 in 0"), ["dropped", "noted 2"])
        self.assert_raises(Full, (3,), desk.say, "at 9 ran red")

    def test_undo_and_redo_bring_back_more_notes_than_the_limit(self):
        desk = Desk(2)
        desk.run(f"{BEGIN}\ndrop 2\ndrop 1")
        desk.set_limit(1)
        self.assert_is(desk.run("undo\nundo"), ["undone", "undone"])
        self.assert_is((len(desk), desk.limit), (3, 1))
        self.assert_raises(Full, (1,), desk.say, "at 9 ran red")
        for value in (1, 2):
            self.assert_raises(BadLimit, (value,), desk.set_limit, value)
        self.assert_is(desk.run("undo\nundo"), ["undone", "undone"])
        self.assert_is(desk.run("redo\nredo"), ["redone", "redone"])
        self.assert_is((len(desk), desk.limit), (3, 1))
        self.assert_raises(Full, (1,), desk.say, "at 9 ran red")

    def test_undo_changes_no_limit(self):
        desk = Desk(2)
        desk.run(BEGIN)
        desk.set_limit(4)
        desk.run("undo\nundo")
        self.assert_is(desk.limit, 4)
        desk.set_limit(1)
        self.assert_is((desk.say("redo"), desk.say("redo"), desk.limit), ("redone", "redone", 1))
        desk.tried("undo\nredo")
        self.assert_is(desk.limit, 1)

    def test_redo_at_the_limit(self):
        desk = Desk(2, 2)
        desk.run("at 0 counted 0 in 0\nat 0 counted 0 in 1\nundo")
        desk.set_limit(1)
        self.assert_is(desk.say("redo"), "redone")
        self.assert_is((len(desk), desk.limit), (2, 1))
        self.assert_raises(RowRefused, (0, "full"), desk.run, "at 1 counted 0 in 0")
