"""Points [55] and [56]: notes and their texts."""

from itertools import chain, combinations, product

from tests.checks import Checks
from villagelines.errors import BadNote
from villagelines.years import notes
from villagelines.years.notes import Closed, Come, Counted, FamilyNote, Leave, LineNote, Note, Opened, Ran, Seen
from villagelines.years.notes import Stood, VillageNote

# For each class: its arguments, the values of one note, its text.
KINDS = {
    Come: (("moment", "name", "heads", "village"), (4, "ann", 3, 2), "at 4 come ann 3 in 2"),
    Leave: (("moment", "name", "village"), (4, "ann", 2), "at 4 leave ann from 2"),
    Seen: (("moment", "name", "village"), (4, "ann", 2), "at 4 seen ann in 2"),
    Opened: (("moment", "line", "number", "stops"), (4, "red", 5, (0, 2, 3)), "at 4 open red 5 with 0 2 3"),
    Closed: (("moment", "line"), (4, "red"), "at 4 close red"),
    Ran: (("moment", "line"), (4, "red"), "at 4 ran red"),
    Stood: (("moment", "line"), (4, "red"), "at 4 stood red"),
    Counted: (("moment", "heads", "village"), (4, 3, 2), "at 4 counted 3 in 2"),
}
BETWEEN = {
    FamilyNote: (("moment", "name"), (4, "ann")),
    VillageNote: (("moment", "village"), (4, 2)),
    LineNote: (("moment", "line"), (4, "red")),
}
# Values that stand at the edge of what an argument may be, and values that are wrong there.
EDGES = {
    "moment": (0, 10 ** 60 - 1),
    "name": ("a", "z", "abcdefghijkl", "in"),
    "line": ("a", "z", "abcdefghijkl", "at"),
    "heads": (1, 10 ** 60 - 1),
    "number": (1, 10 ** 60 - 1),
    "stops": ((0, 1), (3, 10 ** 9), (0, 1, 2, 3, 4)),
    "village": (0, 10 ** 60 - 1),
}
NO_NAMES = ("", "abcdefghijklm", "Ann", "aNn", "ann1", "1", "an n", " ann", "ann ", "a-b", "ann\n", "_", "ann_b")
WRONG = {
    "moment": (-1, -10 ** 9),
    "name": NO_NAMES,
    "line": NO_NAMES,
    "heads": (-1,),
    "number": (0, -1),
    "stops": ((), (0,), (1, 0), (1, 1), (0, 2, 1), (0, 1, 1), (-1, 0), (-2, -1, 5), (0, -1), (-1,)),
    "village": (-1, -10 ** 9),
}


def with_value(values, at, value):
    return (*values[:at], value, *values[at + 1:])


def several_of(many):
    """Two or more of so many places, in every way, each way ascending."""
    return chain.from_iterable(combinations(range(many), some) for some in range(2, many + 1))


class TestClasses(Checks):

    def test_under_note(self):
        for between in BETWEEN:
            self.assertEqual(between.__bases__, (Note,))
        for kind in KINDS:
            self.assertTrue(issubclass(kind, Note))
        self.assertFalse(issubclass(Note, tuple(BETWEEN)))

    def test_under_the_three_in_between(self):
        above = {Come: (FamilyNote, VillageNote), Leave: (FamilyNote, VillageNote), Seen: (FamilyNote, VillageNote),
                 Counted: (VillageNote,), Opened: (LineNote,), Closed: (LineNote,), Ran: (LineNote,),
                 Stood: (LineNote,)}
        for kind in KINDS:
            self.assertEqual(tuple(one for one in BETWEEN if issubclass(kind, one)), above[kind])

    def test_none_of_the_eight_under_another(self):
        for kind in KINDS:
            self.assertEqual([other for other in KINDS if issubclass(kind, other)], [kind])

    def test_verbs(self):
        for kind, (_, _, text) in KINDS.items():
            self.assert_is(vars(kind)["VERB"], text.split(" ")[2])
        self.assert_is([kind.VERB for kind in KINDS],
                       ["come", "leave", "seen", "open", "close", "ran", "stood", "counted"])

    def test_each_of_the_eight_and_note_have_their_words(self):
        for kind in (Note, *KINDS):
            self.assertIn("words", vars(kind))
        self.assertIn("text", vars(Note))
        self.assertIn("__eq__", vars(Note))

    def test_no_other_classes(self):
        found = [one for one in vars(notes).values() if isinstance(one, type) and one.__module__ == notes.__name__]
        self.assertEqual(found, [Note, *BETWEEN, *KINDS])


class TestMaking(Checks):

    def test_attributes(self):
        for kind, (names, values, _) in KINDS.items():
            self.assert_is(sorted(vars(kind(*values)).items()), sorted(zip(names, values)))
        for kind, (names, values) in BETWEEN.items():
            self.assert_is(sorted(vars(kind(*values)).items()), sorted(zip(names, values)))
        self.assert_is(vars(Note(4)), {"moment": 4})

    def test_by_keyword(self):
        for kind, (names, values, text) in KINDS.items():
            self.assert_is(kind(**dict(zip(names, values))).text(), text)

    def test_stops_are_a_tuple(self):
        self.assert_is(Opened(0, "red", 1, (0, 1)).stops, (0, 1))

    def test_edges(self):
        for kind, (names, values, _) in KINDS.items():
            for at, name in enumerate(names):
                for value in EDGES[name]:
                    with self.subTest(kind=kind, name=name, value=value):
                        self.assert_is(getattr(kind(*with_value(values, at, value)), name), value)

    def test_heads(self):
        self.assert_raises(BadNote, ("heads",), Come, 0, "ann", 0, 0)
        self.assert_is(Counted(0, 0, 0).heads, 0)

    def test_wrong_values(self):
        for kind, (names, values, _) in KINDS.items():
            for at, name in enumerate(names):
                for value in WRONG[name]:
                    with self.subTest(kind=kind, name=name, value=value):
                        self.assert_raises(BadNote, (name,), kind, *with_value(values, at, value))

    def test_first_argument_is_told_first(self):
        for kind, (names, values, _) in KINDS.items():
            for at, name in enumerate(names):
                wrong = [WRONG[later][0] for later in names[at:]]
                with self.subTest(kind=kind, name=name):
                    self.assert_raises(BadNote, (name,), kind, *values[:at], *wrong)

    def test_first_of_several_faults_is_told(self):
        for kind, (names, values, *_) in [*KINDS.items(), *BETWEEN.items()]:
            for places in several_of(len(names)):
                for wrong in product(*[WRONG[names[at]][:3] for at in places]):
                    given = values
                    for at, value in zip(places, wrong):
                        given = with_value(given, at, value)
                    with self.subTest(kind=kind, given=given):
                        self.assert_raises(BadNote, (names[places[0]],), kind, *given)

    def test_counted_looks_at_heads_between_moment_and_village(self):
        self.assert_raises(BadNote, ("moment",), Counted, -1, -1, 0)
        self.assert_raises(BadNote, ("moment",), Counted, -1, 0, -1)
        self.assert_raises(BadNote, ("heads",), Counted, 0, -1, -1)
        self.assert_raises(BadNote, ("moment",), Counted, -1, -1, -1)
        self.assert_raises(BadNote, ("village",), Counted, 0, 0, -1)

    def test_between(self):
        self.assert_raises(BadNote, ("moment",), Note, -1)
        for kind, (names, values) in BETWEEN.items():
            self.assert_raises(BadNote, ("moment",), kind, -1, WRONG[names[1]][0])
            for value in WRONG[names[1]]:
                self.assert_raises(BadNote, (names[1],), kind, values[0], value)


class TestTexts(Checks):

    def test_interface(self):
        self.assert_is(Opened(3, "red", 5, (0, 2)).text(), 'at 3 open red 5 with 0 2')

    def test_texts_and_words(self):
        for kind, (_, values, text) in KINDS.items():
            self.assert_is(kind(*values).text(), text)
            self.assert_is(kind(*values).words(), text.split(" "))

    def test_note(self):
        self.assert_is(Note(0).words(), ["at", "0"])
        self.assert_is(Note(120).words(), ["at", "120"])
        self.assert_is(Note(120).text(), "at 120")

    def test_great_numbers(self):
        great = 10 ** 60 - 1
        self.assert_is(Come(great, "ann", great, great).text(), f"at {great} come ann {great} in {great}")
        self.assert_is(Opened(0, "red", great, (0, great)).text(), f"at 0 open red {great} with 0 {great}")

    def test_changing_the_words_changes_no_later_words(self):
        for note in (Note(4), *[kind(*values) for kind, (_, values, _) in KINDS.items()]):
            before = (note.words(), note.text(), dict(vars(note)))
            note.words().append("spoiled")
            note.words().reverse()
            self.assert_is((note.words(), note.text(), dict(vars(note))), before)


class TestEqual(Checks):

    def test_equal_texts(self):
        for kind, (_, values, _) in KINDS.items():
            self.assertIs(kind(*values) == kind(*values), True)
            self.assertIs(kind(*values) != kind(*values), False)
        self.assertIs(Note(4) == Note(4), True)

    def test_other_texts(self):
        told = [kind(*values) for kind, (_, values, _) in KINDS.items()]
        for kind, (names, values, _) in KINDS.items():
            for at, name in enumerate(names):
                for value in EDGES[name]:
                    told.append(kind(*with_value(values, at, value)))
        told = [Note(4), Note(5), *told]
        for one in told:
            for other in told:
                self.assertIs(one == other, one.text() == other.text())
                self.assertIs(one != other, one.text() != other.text())

    def test_not_equal_to_what_is_no_note(self):
        for kind, (_, values, text) in KINDS.items():
            for other in (None, 4, text, text.split(" "), values, (), {}):
                self.assertIs(kind(*values) == other, False)
                self.assertIs(other == kind(*values), False)
