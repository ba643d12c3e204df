"""Point [58]: diaries."""

from itertools import permutations

from tests.checks import Checks
from tests.years import LONG
from villagelines.errors import BadNote, NoSuch
from villagelines.years.diary import Diary, merged, started
from villagelines.years.notes import Closed, Come, Counted, Leave, Opened, Ran, Seen, Stood

NOTES = [Come(0, "ann", 3, 0), Come(2, "bob", 2, 1), Opened(2, "red", 5, (0, 1)), Ran(5, "red")]


def texts(diary):
    return [note.text() for note in diary.notes]


class TestDiary(Checks):

    def test_no_notes(self):
        diary = Diary(3)
        self.assert_is((diary.villages, diary.notes, len(diary)), (3, (), 0))
        self.assertIsInstance(vars(Diary)["notes"], property)

    def test_notes_in_order(self):
        diary = Diary(2)
        self.assert_is([diary.tell(note) for note in NOTES], [0, 1, 2, 3])
        self.assertIs(type(diary.notes), tuple)
        for told, note in zip(diary.notes, NOTES):
            self.assertIs(told, note)
        self.assert_is(len(diary), 4)

    def test_notes_that_are_told_late(self):
        diary = Diary(2)
        self.assert_is([diary.tell(note) for note in NOTES[::-1]], [0, 0, 1, 0])
        self.assert_is(texts(diary), ["at 0 come ann 3 in 0", "at 2 open red 5 with 0 1", "at 2 come bob 2 in 1",
                                      "at 5 ran red"])
        self.assert_is(diary.tell(Stood(4, "red")), 3)
        self.assert_is(diary.tell(Stood(0, "red")), 1)

    def test_notes_of_equal_moments(self):
        notes = [Ran(7, "a"), Ran(7, "b"), Ran(7, "c")]
        for order in permutations(notes):
            diary = Diary(2)
            self.assert_is([diary.tell(note) for note in order], [0, 1, 2])
            self.assertEqual(diary.notes, order)

    def test_equal_notes(self):
        diary = Diary.of(2, NOTES[0], NOTES[0], Come(0, "ann", 3, 0))
        self.assert_is(texts(diary), ["at 0 come ann 3 in 0"] * 3)

    def test_order_is_that_of_moments_and_telling(self):
        for diary in LONG[:40]:
            for step in (1, 3, 7):
                order = sorted(range(len(diary)), key=lambda at: at * step % 10)
                told = Diary(diary.villages)
                indexes = []
                for at in order:
                    indexes.append(told.tell(diary.notes[at]))
                    self.assertIs(told.notes[indexes[-1]], diary.notes[at])
                self.assertEqual(texts(told), [diary.notes[at].text() for at in
                                               sorted(order, key=lambda at: diary.notes[at].moment)])

    def test_villages(self):
        wrong = [Come(0, "ann", 3, 2), Leave(0, "ann", 2), Seen(0, "ann", 10 ** 50), Counted(0, 0, 3),
                 Opened(0, "red", 1, (0, 2)), Opened(0, "red", 1, (2, 3))]
        diary = Diary.of(2, *NOTES)
        for note in wrong:
            self.assert_raises(BadNote, ("village",), diary.tell, note)
            self.assert_raises(BadNote, ("village",), Diary(1).tell, note)
            self.assert_is(texts(diary), [note.text() for note in NOTES])
        for note in (Come(0, "eve", 3, 1), Leave(0, "ann", 1), Seen(0, "ann", 0), Counted(0, 0, 1),
                     Opened(0, "red", 1, (0, 1)), Closed(0, "red"), Ran(0, "x"), Stood(0, "x")):
            self.assert_is(Diary(2).tell(note), 0)

    def test_drop(self):
        diary = Diary.of(2, *NOTES)
        self.assertIs(diary.drop(1), NOTES[1])
        self.assertEqual(diary.notes, (NOTES[0], NOTES[2], NOTES[3]))
        self.assertIs(diary.drop(2), NOTES[3])
        self.assertIs(diary.drop(0), NOTES[0])
        self.assertIs(diary.drop(0), NOTES[2])
        self.assert_is((diary.notes, len(diary)), ((), 0))

    def test_nothing_to_drop(self):
        diary = Diary.of(2, *NOTES)
        for index in (-1, 4, -4, 10 ** 50):
            self.assert_raises(NoSuch, (index, 4), diary.drop, index)
        self.assertEqual(diary.notes, tuple(NOTES))
        self.assert_raises(NoSuch, (0, 0), Diary(2).drop, 0)

    def test_a_tuple_of_notes_does_not_change_later(self):
        diary = Diary.of(2, *NOTES)
        before = diary.notes
        diary.tell(Ran(1, "red"))
        diary.drop(0)
        self.assertEqual(before, tuple(NOTES))


class TestMakers(Checks):

    def test_of(self):
        self.assertIsInstance(vars(Diary)["of"], classmethod)
        diary = Diary.of(2, *NOTES[::-1])
        self.assertIs(type(diary), Diary)
        self.assert_is((diary.villages, len(diary), len(Diary.of(3))), (2, 4, 0))
        self.assert_is(texts(diary), ["at 0 come ann 3 in 0", "at 2 open red 5 with 0 1", "at 2 come bob 2 in 1",
                                      "at 5 ran red"])
        self.assert_raises(BadNote, ("village",), Diary.of, 1, *NOTES)

    def test_merged(self):
        one, other = Diary.of(2, NOTES[1], NOTES[3]), Diary.of(2, NOTES[0], NOTES[2])
        self.assertEqual(merged(2, one, other).notes, tuple(NOTES))
        self.assert_is(texts(merged(3, other, one)), ["at 0 come ann 3 in 0", "at 2 open red 5 with 0 1",
                                                      "at 2 come bob 2 in 1", "at 5 ran red"])
        self.assert_is(merged(3, other, one).villages, 3)
        self.assert_is((len(merged(2)), len(merged(2, one)), len(merged(2, one, one))), (0, 2, 4))
        self.assert_raises(BadNote, ("village",), merged, 1, one, other)

    def test_merged_diaries_stay_as_they_are(self):
        one, other = Diary.of(2, NOTES[1]), Diary.of(2, NOTES[0])
        both = merged(2, one, other)
        both.drop(0)
        one.tell(NOTES[3])
        self.assertEqual((one.notes, other.notes, both.notes), ((NOTES[1], NOTES[3]), (NOTES[0],), (NOTES[1],)))

    def test_started(self):
        diary = started(3, bob=(2, 1), ann=(3, 0), zoe=(10 ** 12, 2))
        self.assertIs(type(diary), Diary)
        self.assert_is((diary.villages, texts(diary)), (3, ["at 0 come bob 2 in 1", "at 0 come ann 3 in 0",
                                                            "at 0 come zoe 1000000000000 in 2"]))
        self.assert_is(len(started(3)), 0)

    def test_started_by_wrong_families(self):
        for families, why in (({"ann": (1, 3)}, "village"), ({"ann": (1, -1)}, "village"), ({"ann": (0, 0)}, "heads"),
                              ({"Ann": (1, 0)}, "name"), ({"ann": (1, 3), "bob": (0, 0)}, "village"),
                              ({"ann": (0, 0), "bob": (1, 3)}, "heads"), ({"aa": (1, 0), "b_c": (1, 0)}, "name")):
            with self.assertRaises(BadNote) as caught:
                started(3, **families)
            self.assertEqual(caught.exception.why, why)
