"""Point [62]: histories, and what is wrong with one."""

from tests.checks import Checks
from tests.years import ABLE, UNABLE, Seat, can_happen, fault_by_moves, homes_after, reached, seat_after
from villagelines.errors import CannotBe
from villagelines.years.diary import Diary, started
from villagelines.years.history import fault_of_history, history_of
from villagelines.years.notes import Closed, Come, Counted, Leave, Opened, Ran, Seen, Stood

DIARY = Diary.of(3, Come(0, "bob", 2, 1), Come(1, "ann", 3, 0), Opened(2, "red", 5, (0, 1)), Seen(3, "ann", 1),
                 Leave(4, "bob", 0), Stood(5, "red"))
HISTORY = [
    [], [("bob", 1)], [("ann", 0), ("bob", 1)], [("ann", 1), ("bob", 0)], [("ann", 0), ("bob", 0)], [("ann", 0)],
    [("ann", 0)],
]


def fault_by_definition(diary, history):
    """The first fault of the history, by the words of the document, with all moves made."""
    if len(history) != len(diary) + 1:
        return (0, "length")
    seat, left = Seat({}, {}, {()}), ()
    for at, entry in enumerate(history):
        if [name for name, _ in entry] != sorted(seat.heads):
            return (at, "names")
        if not {village for _, village in entry} <= set(range(diary.villages)):
            return (at, "village")
        if tuple(entry) not in reached(seat, [left]):
            return (at, "apart")
        if at < len(diary):
            note = diary.notes[at]
            if not can_happen(seat, tuple(entry), note):
                return (at, "note")
            seat = seat_after(Seat(seat.heads, seat.lines, {tuple(entry)}), note)
            left = homes_after(tuple(entry), note)
    return None


def with_entry(at, entry):
    """The history of the example with another entry at this place."""
    return [*HISTORY[:at], entry, *HISTORY[at + 1:]]


def changed(history):
    """The history with one thing changed, in many ways."""
    yield history[:-1]
    yield [*history, []]
    for at, entry in enumerate(history):
        before, after = history[:at], history[at + 1:]
        yield [*before, entry[:-1], *after]
        yield [*before, entry[::-1], *after]
        yield [*before, [*entry, ("zoe", 0)], *after]
        for place, (name, _) in enumerate(entry):
            for village in (-1, 0, 1, 2, 5):
                yield [*before, [*entry[:place], (name, village), *entry[place + 1:]], *after]


class TestHistory(Checks):

    def assert_history(self, diary):
        """The history of the diary is of the right kinds and fits."""
        history = history_of(diary)
        self.assertIs(type(history), list)
        for entry in history:
            self.assertIs(type(entry), list)
            for pair in entry:
                self.assert_is([type(part) for part in (pair, *pair)], [tuple, str, int])
        self.assert_is(len(history), len(diary) + 1)
        self.assert_is(fault_by_definition(diary, history), None)
        self.assert_is(fault_of_history(diary, history), None)

    def test_no_notes(self):
        self.assert_is(history_of(Diary(3)), [[]])
        self.assert_is(fault_of_history(Diary(3), [[]]), None)

    def test_one_way_alone(self):
        diary = Diary.of(2, Come(0, "bob", 2, 1), Come(1, "ann", 3, 0), Seen(2, "bob", 1), Leave(3, "ann", 0))
        self.assert_is(history_of(diary), [[], [("bob", 1)], [("ann", 0), ("bob", 1)], [("ann", 0), ("bob", 1)],
                                           [("bob", 1)]])

    def test_example(self):
        self.assert_history(DIARY)

    def test_every_diary(self):
        for diary in ABLE:
            self.assert_history(diary)

    def test_diaries_that_cannot_be(self):
        for diary in UNABLE:
            self.assert_raises(CannotBe, (fault_by_moves(diary),), history_of, diary)

    def test_at_the_bounds(self):
        far = 10 ** 12
        diary = started(3, ann=(far, 0), bob=(far, 1), cid=(far, 2))
        for note in (Opened(1, "red", far, (0, 1, 2)), Counted(2, 3 * far, 2), Counted(3, 0, 2), Ran(4, "red"),
                     Closed(5, "red"), Counted(6, far, 0), Counted(7, 2 * far, 2)):
            diary.tell(note)
        self.assert_short(self.assert_history, diary)

    def test_clean(self):
        def told(diary):
            return history_of(diary)
        for diary in ABLE[::50]:
            self.assert_clean(told, diary)


class TestFaults(Checks):

    def test_none(self):
        self.assert_is(fault_of_history(DIARY, HISTORY), None)
        # Other ways of living fit as well.
        self.assert_is(fault_of_history(DIARY, with_entry(6, [("ann", 0)])), None)
        self.assert_is(fault_of_history(DIARY, with_entry(3, [("ann", 1), ("bob", 1)])), None)

    def test_length(self):
        for history in ([], HISTORY[:-1], [*HISTORY, [("ann", 0)]], HISTORY[1:-1]):
            self.assert_is(fault_of_history(DIARY, history), (0, "length"))
        self.assert_is(fault_of_history(Diary(2), []), (0, "length"))

    def test_names(self):
        for at, entry in ((0, [("ann", 0)]), (1, []), (1, [("ann", 1)]), (2, [("bob", 1), ("ann", 0)]),
                          (2, [("ann", 0)]), (2, [("ann", 0), ("ann", 0), ("bob", 1)]), (5, [("ann", 0), ("bob", 0)]),
                          (6, []), (6, [("bob", 0)])):
            self.assert_is(fault_of_history(DIARY, with_entry(at, entry)), (at, "names"))

    def test_village(self):
        for village in (-1, -3, 3, 10 ** 20):
            self.assert_is(fault_of_history(DIARY, with_entry(1, [("bob", village)])), (1, "village"))
            self.assert_is(fault_of_history(DIARY, with_entry(4, [("ann", 0), ("bob", village)])), (4, "village"))
            self.assert_is(fault_of_history(DIARY, with_entry(6, [("ann", village)])), (6, "village"))

    def test_apart(self):
        for at, entry in ((1, [("bob", 0)]), (2, [("ann", 1), ("bob", 0)]), (3, [("ann", 2), ("bob", 1)]),
                          (5, [("ann", 1)]), (6, [("ann", 1)])):
            self.assert_is(fault_of_history(DIARY, with_entry(at, entry)), (at, "apart"))

    def test_note(self):
        self.assert_is(fault_of_history(DIARY, with_entry(3, [("ann", 0), ("bob", 0)])), (3, "note"))
        self.assert_is(fault_of_history(DIARY, with_entry(4, [("ann", 0), ("bob", 1)])), (4, "note"))

    def test_order_of_faults(self):
        self.assert_is(fault_of_history(DIARY, with_entry(1, [("ann", 7)])), (1, "names"))
        self.assert_is(fault_of_history(DIARY, with_entry(4, [("ann", 2), ("bob", 3)])), (4, "village"))
        self.assert_is(fault_of_history(DIARY, with_entry(4, [("ann", 2), ("bob", 1)])), (4, "apart"))
        self.assert_is(fault_of_history(DIARY, [[("x", 9)], *HISTORY[1:-1], []]), (0, "names"))
        self.assert_is(fault_of_history(DIARY, [[("x", 9)], *HISTORY[1:-1]]), (0, "length"))

    def test_every_kind_of_note(self):
        notes = [Come(9, "ann", 1, 0), Leave(9, "ann", 1), Seen(9, "ann", 1), Opened(9, "red", 1, (0, 1)),
                 Closed(9, "sea"), Ran(9, "red"), Ran(9, "sea"), Stood(9, "sea"), Counted(9, 2, 0)]
        for note in notes:
            diary = Diary.of(2, Come(0, "ann", 3, 0), Opened(1, "red", 4, (0, 1)), note)
            self.assert_is(fault_of_history(diary, [[], [("ann", 0)], [("ann", 0)], [("ann", 0)]]), (2, "note"))
        diary = Diary.of(2, Come(0, "ann", 3, 0), Opened(1, "red", 3, (0, 1)), Stood(9, "red"))
        self.assert_is(fault_of_history(diary, [[], [("ann", 0)], [("ann", 0)], [("ann", 0)]]), (2, "note"))

    def test_diaries_that_cannot_be_have_no_history(self):
        for diary in UNABLE[::5]:
            fault = fault_by_moves(diary)
            some = history_of(Diary.of(diary.villages, *diary.notes[:fault]))
            history = some + [some[-1]] * (len(diary) - fault)
            self.assert_is(fault_of_history(diary, history), (fault, "note"))

    def test_every_change(self):
        for diary in [DIARY, *ABLE[::12], *UNABLE[::25]]:
            able = Diary.of(diary.villages, *diary.notes[:fault_by_moves(diary)])
            history = history_of(able)
            history += [history[-1]] * (len(diary) - len(able))
            for other in changed(history):
                self.assert_is(fault_of_history(diary, other), fault_by_definition(diary, other))

    def test_clean(self):
        self.assert_clean(fault_of_history, DIARY, HISTORY)
        self.assert_clean(fault_of_history, DIARY, with_entry(4, [("ann", 2), ("bob", 3)]))
