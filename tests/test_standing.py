"""Points [59], [60] and [61]: what the stories of a diary end in."""

from tests.checks import Checks
from tests.years import (ABLE, DIARIES, LONG, UNABLE, classes_in, fault_by_moves, first_notes, reached, seats_of,
                         villages_of)
from villagelines.books.answers import answers
from villagelines.classes.spectrum import spectrum
from villagelines.errors import CannotBe
from villagelines.lots.settling import settled_placing
from villagelines.region.book import Region
from villagelines.ways.ever import can_live, fate_of
from villagelines.years.diary import Diary, merged, started
from villagelines.years.notes import Closed, Come, Counted, Leave, Opened, Ran, Seen, Stood
from villagelines.years.standing import first_fault, standing


def told_standing(diary, count=None):
    """The standing, with the region told by its villages and lines."""
    names, heads, lines, region, classes = standing(diary, count)
    return names, heads, lines, (region.villages, region.lines), classes


def standing_by_moves(diary, count):
    """The standing after so many notes, found by making all moves."""
    seat = seats_of(diary)[count]
    names = sorted(seat.heads)
    lines = (diary.villages, tuple(seat.lines.values()))
    settled = [min(villages_of(homes) for homes in group) for group in classes_in(seat)]
    return names, [seat.heads[name] for name in names], list(seat.lines), lines, sorted(settled)


class TestStanding(Checks):

    def test_interface(self):
        diary = started(3, ann=(3, 0), bob=(2, 1))
        diary.tell(Opened(1, "red", 5, (0, 1)))
        self.assert_is(standing(diary)[4], [(0, 0)])
        diary.tell(Closed(2, "red"))
        self.assert_is(standing(diary)[4], [(0, 0), (0, 1), (1, 0), (1, 1)])
        diary.tell(Seen(5, "ann", 1))
        self.assert_is(standing(diary)[4], [(1, 0), (1, 1)])

    def test_no_notes(self):
        self.assert_is(told_standing(Diary(3)), ([], [], [], (3, ()), [()]))
        self.assert_is(told_standing(Diary(3), 0), ([], [], [], (3, ()), [()]))
        self.assertIs(type(standing(Diary(3))), tuple)
        self.assertIs(type(standing(Diary(3))[3]), Region)

    def test_names_ascend_and_lines_stand_in_the_order_of_opening(self):
        diary = started(3, bob=(2, 1), zoe=(7, 2), ann=(3, 0))
        for line in ("red", "blue"):
            diary.tell(Opened(1, line, 9, (0, 2)))
        self.assert_is(told_standing(diary), (["ann", "bob", "zoe"], [3, 2, 7], ["red", "blue"],
                                              (3, (((0, 2), 9), ((0, 2), 9))), [(0, 1, 0)]))

    def test_a_family_comes_again_with_other_heads(self):
        diary = Diary.of(2, Come(0, "ann", 3, 0), Leave(1, "ann", 0), Come(2, "ann", 5, 1))
        self.assert_is(told_standing(diary), (["ann"], [5], [], (2, ()), [(1,)]))
        self.assert_is(told_standing(diary, 2), ([], [], [], (2, ()), [()]))

    def test_a_family_comes_twice(self):
        diary = Diary.of(2, Come(0, "ann", 3, 0), Come(1, "ann", 3, 0))
        self.assert_is(first_fault(diary), 1)

    def test_a_line_is_opened_again_behind_the_others(self):
        diary = Diary.of(3, Opened(0, "red", 4, (0, 1)), Opened(0, "sea", 5, (1, 2)), Closed(1, "red"),
                         Opened(2, "red", 6, (0, 1, 2)))
        self.assert_is(told_standing(diary)[2:4], (["sea", "red"], (3, (((1, 2), 5), ((0, 1, 2), 6)))))
        self.assert_is(told_standing(diary, 2)[2], ["red", "sea"])
        self.assert_is(told_standing(diary, 3)[2:4], (["sea"], (3, (((1, 2), 5),))))

    def test_a_line_is_opened_twice_or_closed_twice(self):
        opened = Diary.of(2, Opened(0, "red", 4, (0, 1)), Opened(0, "red", 4, (0, 1)))
        self.assert_is(first_fault(opened), 1)
        closed = Diary.of(2, Opened(0, "red", 4, (0, 1)), Closed(0, "red"), Closed(0, "red"))
        self.assert_is(first_fault(closed), 2)

    def test_what_is_not_there(self):
        for note in (Leave(0, "ann", 0), Seen(0, "ann", 0), Closed(0, "red"), Ran(0, "red"), Stood(0, "red"),
                     Counted(0, 1, 0)):
            self.assert_is(first_fault(Diary.of(2, note)), 0)
        self.assert_is(first_fault(Diary.of(2, Counted(0, 0, 0))), None)

    def test_notes_told_late(self):
        diary = started(2, ann=(3, 0))
        diary.tell(Seen(9, "ann", 1))
        self.assert_is(first_fault(diary), 1)
        diary.tell(Opened(5, "red", 3, (0, 1)))
        self.assert_is(first_fault(diary), None)
        self.assert_is(standing(diary)[4], [(0,)])

    def test_a_line_can_leave_several_classes(self):
        diary = started(3, ann=(3, 0), bob=(2, 1))
        diary = merged(3, diary, Diary.of(3, Opened(1, "red", 5, (0, 1)), Leave(2, "bob", 0)))
        self.assert_is(standing(diary)[4], [(0,), (1,)])

    def test_kept_classes_stay_as_they_are(self):
        diary = started(2, ann=(3, 0), bob=(2, 1))
        diary.tell(Opened(1, "red", 5, (0, 1)))
        for note in (Seen(2, "bob", 0), Ran(3, "red"), Counted(4, 5, 1), Counted(5, 5, 0), Seen(6, "ann", 1)):
            diary.tell(note)
            self.assert_is(standing(diary)[4], [(0, 0)])
        diary.tell(Counted(7, 4, 0))
        self.assert_is(first_fault(diary), 8)

    def test_count(self):
        diary = Diary.of(2, Come(0, "ann", 3, 0), Come(1, "ann", 3, 0), Come(2, "bob", 1, 0))
        self.assert_is(told_standing(diary, 1), (["ann"], [3], [], (2, ()), [(0,)]))
        for count in (2, 3, None):
            self.assert_raises(CannotBe, (1,), standing, diary, count)
        self.assert_raises(CannotBe, (1,), standing, diary)

    def test_every_diary(self):
        for diary in ABLE:
            self.assertIsNone(first_fault(diary))
            self.assert_is(told_standing(diary), standing_by_moves(diary, len(diary)))
            self.assert_is(told_standing(diary, None), told_standing(diary, len(diary)))

    def test_after_every_note(self):
        for diary in LONG[::2]:
            fault = fault_by_moves(diary)
            for count in range(len(diary) + 1):
                if fault is None or count <= fault:
                    self.assert_is(told_standing(diary, count), standing_by_moves(diary, count))
                else:
                    self.assert_raises(CannotBe, (fault,), standing, diary, count)

    def test_diaries_that_cannot_be(self):
        for diary in UNABLE:
            fault = fault_by_moves(diary)
            self.assert_is(first_fault(diary), fault)
            self.assert_raises(CannotBe, (fault,), standing, diary)
            self.assertIsNone(first_fault(first_notes(diary, fault)))

    def test_at_the_bounds(self):
        far = 10 ** 12
        diary = started(3, ann=(far, 0), bob=(far, 1), cid=(far, 2))
        for at in range(3):
            diary.tell(Opened(1, "abc"[at], far, (0, 1, 2)))
            diary.tell(Ran(2, "abc"[at]))
        diary.tell(Closed(3, "a"))
        self.assert_is(self.assert_short(standing, diary)[4], [(0, 0, 0)])
        for villages, families in ((1, 6), (2, 4), (4, 2), (5, 2)):
            diary = Diary(villages)
            for at in range(families):
                diary.tell(Come(at, "abcdef"[at], far, at * (villages > 2)))
            self.assert_is(self.assert_short(standing, diary)[4], [tuple(at * (villages > 2) for at in range(families))])

    def test_clean(self):
        for diary in ABLE[::40]:
            self.assert_clean(told_standing, diary)
            self.assert_clean(first_fault, diary)
        self.assert_clean(first_fault, UNABLE[0])


class TestFacts(Checks):
    """The facts of point [61], each seen on all diaries that end in a note of its kind."""

    def steps(self, *kinds):
        """For each diary whose last note is of these kinds: the note, and the standing before and after it."""
        for diary in DIARIES:
            if len(diary) and isinstance(diary.notes[-1], kinds) and fault_by_moves(diary) is None:
                yield diary.notes[-1], standing(diary, len(diary) - 1), standing(diary)

    def test_each_class_leads_to_one_class(self):
        seen = 0
        for note, (_, _, _, _, before), (names, heads, _, region, after) in self.steps(Come, Opened):
            ends = set()
            for settled in before:
                placing = list(settled)
                if isinstance(note, Come):
                    placing.insert(names.index(note.name), note.village)
                ends.add(tuple(settled_placing(region, heads, placing)))
            self.assert_is(after, sorted(ends))
            seen += 1
        self.assertGreater(seen, 20)

    def test_which_classes_are_kept(self):
        def keeps(note, names, heads, lines, region, settled):
            given = (region, heads, list(settled))
            if isinstance(note, Seen):
                return note.village in can_live(*given, names.index(note.name))
            if isinstance(note, Counted):
                return note.heads in spectrum(*given, note.village)
            fate = fate_of(*given, lines.index(note.line))
            return fate != "never" if isinstance(note, Ran) else fate != "always"

        seen = 0
        for note, (names, heads, lines, region, before), after in self.steps(Seen, Ran, Stood, Counted):
            kept = [settled for settled in before if keeps(note, names, heads, lines, region, settled)]
            self.assert_is(after[4], kept)
            seen += len(before) > 1
        self.assertGreater(seen, 5)

    def test_a_closed_line_that_the_others_answer(self):
        diary = started(3, ann=(3, 0), bob=(2, 1), cid=(1, 2))
        for note in (Opened(1, "red", 3, (0, 1)), Opened(1, "sea", 3, (1, 2)), Opened(1, "tin", 7, (0, 1, 2))):
            diary.tell(note)
        before = told_standing(diary)
        self.assertTrue(answers(standing(diary)[3].without(2), (0, 1, 2), 7))
        diary.tell(Closed(2, "tin"))
        self.assert_is(told_standing(diary)[4], before[4])

    def test_the_classes_are_those_that_moves_lead_through(self):
        for diary in ABLE[::7]:
            seat = seats_of(diary)[-1]
            for settled in standing(diary)[4]:
                homes = tuple(zip(sorted(seat.heads), settled))
                self.assertIn(homes, seat.homes)
                self.assertEqual(min(reached(seat, [homes])), homes)
