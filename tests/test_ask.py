"""Points [63] and [64]: questions about a diary."""

from tests.checks import Checks
from tests.test_history import fault_by_definition
from tests.years import ABLE, UNABLE, Seat, classes_in, fault_by_moves, reached, runs, seats_of, villages_of
from villagelines.errors import CannotBe, Unknown
from villagelines.years.ask import ask, newcomers_now, possible_placings
from villagelines.years.diary import Diary, started
from villagelines.years.history import fault_of_history
from villagelines.years.notes import Closed, Come, Leave, Opened, Seen

RED = Opened(1, "red", 5, (0, 1))


def shows(seat, homes, question):
    """True if these homes are a yes to the question."""
    kind, name, *rest = question
    if kind == "run":
        return runs(seat, homes, name)
    village_of = dict(homes)
    return village_of[name] == (village_of[rest[0]] if kind == "meet" else rest[0])


def questions_about(diary, seat):
    names = list(seat.heads)
    meet = [("meet", name, other) for name in names for other in names]
    live = [("live", name, village) for name in names for village in range(diary.villages)]
    return meet + live + [("run", line) for line in seat.lines]


def open_diary():
    """The diary of the interface, after whose notes four placings can be."""
    diary = started(3, ann=(3, 0), bob=(2, 1))
    diary.tell(RED)
    diary.tell(Closed(2, "red"))
    return diary


class TestAsk(Checks):

    def assert_open(self, diary, question, found):
        """The answer is open, and its histories fit and show the yes and the no."""
        seat = seats_of(diary)[-1]
        self.assertIs(type(found), tuple)
        word, yes, no = found
        self.assert_is(word, "open")
        for history in (yes, no):
            self.assert_is([type(history), *{type(entry) for entry in history}], [list, list])
            self.assert_is(fault_by_definition(diary, history), None)
            self.assert_is(fault_of_history(diary, history), None)
        self.assertTrue(shows(seat, tuple(yes[-1]), question))
        self.assertFalse(any(shows(seat, homes, question) for homes in reached(seat, [tuple(no[-1])])))

    def test_yes(self):
        diary = started(3, ann=(3, 0), bob=(2, 1))
        diary.tell(RED)
        for question in (("meet", "ann", "bob"), ("meet", "bob", "ann"), ("live", "ann", 1), ("run", "red")):
            self.assert_is(ask(diary, question), ("yes",))

    def test_no(self):
        diary = started(3, ann=(3, 0), bob=(1, 1))
        diary.tell(RED)
        for question in (("meet", "ann", "bob"), ("live", "ann", 1), ("live", "bob", 2), ("run", "red")):
            self.assert_is(ask(diary, question), ("no",))

    def test_open(self):
        diary = open_diary()
        for question in (("meet", "ann", "bob"), ("live", "ann", 1), ("live", "bob", 0)):
            self.assert_open(diary, question, ask(diary, question))
        self.assert_is(ask(diary, ("live", "ann", 2)), ("no",))
        diary.tell(Opened(3, "sea", 5, (0, 2)))
        self.assert_open(diary, ("run", "sea"), ask(diary, ("run", "sea")))

    def test_only_one_history_is_left(self):
        diary = open_diary()
        diary.tell(Seen(3, "ann", 1))
        word, yes, no = ask(diary, ("meet", "ann", "bob"))
        self.assert_is((word, yes[-2:], no[-2:]), ("open", [[("ann", 1), ("bob", 1)]] * 2,
                                                   [[("ann", 1), ("bob", 0)]] * 2))

    def test_a_family_meets_itself(self):
        for diary in (started(2, ann=(3, 0)), open_diary()):
            self.assert_is(ask(diary, ("meet", "ann", "ann")), ("yes",))

    def test_names_that_are_not_there(self):
        diary = open_diary()
        diary.tell(Leave(4, "bob", 0))
        for question, word in ((("meet", "bob", "ann"), "bob"), (("meet", "ann", "bob"), "bob"),
                               (("meet", "x", "y"), "x"), (("meet", "ann", "red"), "red"), (("live", "bob", 0), "bob"),
                               (("run", "red"), "red"), (("run", "ann"), "ann")):
            self.assert_raises(Unknown, (word,), ask, diary, question)
        self.assert_raises(Unknown, ("ann",), ask, Diary(2), ("live", "ann", 0))

    def test_diaries_that_cannot_be(self):
        for diary in UNABLE[::6]:
            fault = fault_by_moves(diary)
            for question in (("meet", "ann", "bob"), ("live", "nobody", 0), ("run", "red")):
                self.assert_raises(CannotBe, (fault,), ask, diary, question)
            self.assert_raises(CannotBe, (fault,), newcomers_now, diary, 0, "ann", "nobody")
            self.assert_raises(CannotBe, (fault,), possible_placings, diary)

    def test_every_diary(self):
        answers = []
        for diary in ABLE:
            seat = seats_of(diary)[-1]
            classes = classes_in(seat)
            for question in questions_about(diary, seat)[::2]:
                found = ask(diary, question)
                held = {any(shows(seat, homes, question) for homes in group) for group in classes}
                if len(held) == 1:
                    self.assert_is(found, ("yes",) if held == {True} else ("no",))
                else:
                    self.assert_open(diary, question, found)
                answers.append(found[0])
        self.assertGreater(min(answers.count(word) for word in ("yes", "no", "open")), 50)

    def test_at_the_bounds(self):
        diary = started(3, ann=(10 ** 12, 0), bob=(10 ** 12, 1), cid=(10 ** 12, 2))
        for note in (Opened(1, "red", 10 ** 12, (0, 1, 2)), Closed(2, "red"), Opened(3, "red", 10 ** 12, (0, 1))):
            diary.tell(note)
        for question in (("meet", "ann", "cid"), ("live", "ann", 2), ("run", "red")):
            self.assert_open(diary, question, self.assert_short(ask, diary, question))

    def test_clean(self):
        diary = open_diary()
        for question in (("meet", "ann", "bob"), ("live", "ann", 1), ("live", "ann", 2)):
            self.assert_clean(ask, diary, question)


def newcomers_by_moves(diary, village, name, other):
    """The least newcomers for each class, found by trying one number after the other."""
    seat = seats_of(diary)[-1]
    most = max([number for _, number in seat.lines.values()], default=0)
    found = set()
    for group in classes_in(seat):
        homes = next(iter(group))
        for count in range(most + 1):
            # The newcomers are a family that could move, but where it lives it counts at any line as they do.
            grown = Seat({**seat.heads, "zz": count}, seat.lines, None)
            there = reached(grown, [(*homes, ("zz", village))])
            if any(dict(one)[name] == dict(one)[other] for one in there):
                found.add(count)
                break
        else:
            found.add(None)
    return sorted(found - {None}) + [None] * (None in found)


class TestNewcomersNow(Checks):

    def test_example(self):
        diary = started(3, ann=(3, 0), bob=(2, 1))
        diary.tell(Opened(1, "red", 7, (0, 1)))
        self.assert_is(newcomers_now(diary, 0, "ann", "bob"), [2])
        self.assert_is(newcomers_now(diary, 1, "bob", "ann"), [2])
        self.assert_is(newcomers_now(diary, 2, "ann", "bob"), [None])

    def test_several_classes(self):
        diary = open_diary()
        diary.tell(Opened(3, "sea", 6, (0, 2)))
        diary.tell(Opened(3, "tin", 6, (0, 1)))
        self.assert_is(newcomers_now(diary, 0, "ann", "bob"), [0, 1])
        self.assert_is(newcomers_now(diary, 2, "ann", "bob"), [0, 3, 4])

    def test_never_is_told_last(self):
        self.assert_is(newcomers_now(open_diary(), 0, "ann", "bob"), [0, None])

    def test_a_family_and_itself(self):
        for diary in (started(2, ann=(3, 0)), open_diary()):
            self.assert_is(newcomers_now(diary, 1, "ann", "ann"), [0])

    def test_names_that_are_not_there(self):
        diary = open_diary()
        self.assert_raises(Unknown, ("x",), newcomers_now, diary, 0, "x", "ann")
        self.assert_raises(Unknown, ("x",), newcomers_now, diary, 0, "ann", "x")
        self.assert_raises(Unknown, ("x",), newcomers_now, diary, 0, "x", "y")

    def test_every_diary(self):
        for diary in ABLE[::3]:
            names = list(seats_of(diary)[-1].heads)
            for name in names[:2]:
                for other in names[-2:]:
                    for village in range(diary.villages):
                        self.assert_is(newcomers_now(diary, village, name, other),
                                       newcomers_by_moves(diary, village, name, other))

    def test_great_numbers(self):
        diary = started(2, ann=(10 ** 12, 0), bob=(1, 1))
        diary.tell(Opened(1, "red", 10 ** 60 - 1, (0, 1)))
        self.assert_is(self.assert_short(newcomers_now, diary, 0, "ann", "bob"), [10 ** 60 - 2 - 10 ** 12])

    def test_clean(self):
        self.assert_clean(newcomers_now, open_diary(), 0, "ann", "bob")


class TestPossiblePlacings(Checks):

    def test_example(self):
        diary = started(3, ann=(3, 0), bob=(2, 1))
        self.assert_is(possible_placings(diary), [[0, 1]])
        diary.tell(RED)
        self.assert_is(possible_placings(diary), [[0, 0], [0, 1], [1, 0], [1, 1]])
        diary.tell(Seen(3, "ann", 1))
        self.assert_is(possible_placings(diary), [[0, 0], [0, 1], [1, 0], [1, 1]])
        diary.tell(Closed(3, "red"))
        self.assert_is(possible_placings(diary), [[0, 0], [0, 1], [1, 0], [1, 1]])
        diary.tell(Seen(4, "ann", 1))
        self.assert_is(possible_placings(diary), [[1, 0], [1, 1]])

    def test_no_notes(self):
        self.assert_is(possible_placings(Diary(3)), [[]])

    def test_in_the_order_of_the_names(self):
        self.assert_is(possible_placings(Diary.of(3, Come(0, "bob", 1, 2), Come(0, "ann", 1, 1))), [[1, 2]])

    def test_every_diary(self):
        for diary in ABLE:
            wanted = sorted(list(villages_of(homes)) for homes in seats_of(diary)[-1].homes)
            self.assert_is(possible_placings(diary), wanted)

    def test_clean(self):
        self.assert_clean(possible_placings, open_diary())
        self.assert_clean(possible_placings, Diary(2))
