"""Points [4] and [5]: regions."""

from tests.checks import Checks
from villagelines.errors import BadRegion
from villagelines.region.book import Region

LINES = [((0, 1), 5), ((1, 2), 6), ((0, 1), 5)]


class TestMaking(Checks):

    def test_attributes(self):
        region = Region(3, LINES)
        self.assert_is(region.villages, 3)
        self.assert_is(region.lines, (((0, 1), 5), ((1, 2), 6), ((0, 1), 5)))

    def test_smallest(self):
        self.assert_is(Region(1, []).lines, ())
        self.assert_is(Region(2, [((0, 1), 1)]).lines, (((0, 1), 1),))

    def test_largest(self):
        line = ((0, 2, 3, 5, 6), 10 ** 12)
        self.assert_is(Region(7, [line] * 8).lines, (line,) * 8)

    def test_copies_its_list(self):
        lines = list(LINES)
        region = Region(3, lines)
        lines.clear()
        self.assertEqual(len(region), 3)
        self.assertEqual(region, Region(3, LINES))

    def test_leaves_its_list_alone(self):
        lines = list(LINES)
        Region(3, lines)
        self.assert_is(lines, LINES)

    def test_villages(self):
        for villages in (0, -1):
            self.assert_raises(BadRegion, (-1, "villages"), Region, villages, [])

    def test_villages_before_lines(self):
        self.assert_raises(BadRegion, (-1, "villages"), Region, 0, [((), 0)])

    def test_stops(self):
        self.assert_raises(BadRegion, (0, "stops"), Region, 2, [((), 1)])
        self.assert_raises(BadRegion, (0, "stops"), Region, 2, [((1,), 1)])

    def test_range(self):
        self.assert_raises(BadRegion, (0, "range"), Region, 2, [((0, 2), 1)])
        self.assert_raises(BadRegion, (0, "range"), Region, 2, [((-1, 1), 1)])

    def test_order(self):
        self.assert_raises(BadRegion, (0, "order"), Region, 3, [((1, 0), 1)])
        self.assert_raises(BadRegion, (0, "order"), Region, 3, [((1, 1), 1)])
        self.assert_raises(BadRegion, (0, "order"), Region, 3, [((0, 2, 1), 1)])

    def test_number(self):
        self.assert_raises(BadRegion, (0, "number"), Region, 2, [((0, 1), 0)])
        self.assert_raises(BadRegion, (0, "number"), Region, 2, [((0, 1), -3)])

    def test_faults_of_one_line_in_order(self):
        self.assert_raises(BadRegion, (0, "stops"), Region, 2, [((9,), 0)])
        self.assert_raises(BadRegion, (0, "range"), Region, 2, [((2, 0), 0)])
        self.assert_raises(BadRegion, (0, "range"), Region, 2, [((1, 0, 2), 0)])
        self.assert_raises(BadRegion, (0, "order"), Region, 2, [((1, 0), 0)])

    def test_first_line_is_told_first(self):
        lines = [((0, 1), 1), ((0, 1), 0), ((), 1)]
        self.assert_raises(BadRegion, (1, "number"), Region, 2, lines)


class TestReading(Checks):

    def test_len(self):
        self.assertEqual([len(Region(3, LINES[:many])) for many in range(4)], [0, 1, 2, 3])

    def test_iterating(self):
        region = Region(3, LINES)
        self.assert_is(list(region), LINES)
        self.assert_is(list(region), LINES)
        self.assert_is(list(Region.bare(3)), [])

    def test_in(self):
        region = Region(3, LINES)
        self.assertIs(((1, 2), 6) in region, True)
        self.assertIs(((1, 2), 5) in region, False)
        self.assertIs(((0, 2), 6) in region, False)
        self.assertIs(((0, 1), 5) in Region.bare(3), False)

    def test_greatest(self):
        self.assert_is(Region(3, LINES).greatest, 6)
        self.assert_is(Region(3, [((0, 1), 8), ((1, 2), 2)]).greatest, 8)
        self.assert_is(Region.bare(3).greatest, 0)

    def test_equal(self):
        self.assertIs(Region(3, LINES) == Region(3, list(LINES)), True)
        self.assertIs(Region.bare(1) == Region(1, []), True)

    def test_not_equal(self):
        region = Region(3, LINES[:2])
        for other in (Region(4, LINES[:2]), Region(3, LINES[1::-1]), Region(3, LINES), Region.bare(3)):
            self.assertIs(region == other, False)
            self.assertIs(region != other, True)

    def test_not_equal_to_what_is_no_region(self):
        region = Region(3, LINES)
        for other in (None, 3, "region", LINES, tuple(LINES), (3, tuple(LINES)), {}):
            self.assertIs(region == other, False)
            self.assertIs(other == region, False)


class TestChanging(Checks):

    def test_bare(self):
        self.assertEqual(Region.bare(4), Region(4, []))
        self.assert_is(Region.bare(4).lines, ())
        self.assert_raises(BadRegion, (-1, "villages"), Region.bare, 0)

    def test_plus(self):
        one, other = Region(3, LINES[:1]), Region(3, LINES[1:])
        both = one + other
        self.assertEqual(both, Region(3, LINES))
        self.assertEqual(other + one, Region(3, [LINES[1], LINES[2], LINES[0]]))
        self.assertEqual((one, other), (Region(3, LINES[:1]), Region(3, LINES[1:])))
        self.assertEqual(one + Region.bare(3), one)

    def test_plus_with_itself_keeps_equal_lines(self):
        one = Region(3, LINES[:1])
        self.assertEqual(one + one, Region(3, [LINES[0], LINES[0]]))

    def test_plus_of_other_villages(self):
        plus = Region.__add__
        self.assert_raises(BadRegion, (-1, "villages"), plus, Region(3, LINES), Region(4, LINES))
        self.assert_raises(BadRegion, (-1, "villages"), plus, Region.bare(2), Region.bare(1))

    def test_with_line(self):
        region = Region(3, LINES[:1])
        more = region.with_line((1, 2), 6)
        self.assertIsInstance(more, Region)
        self.assert_is(more.lines, (((0, 1), 5), ((1, 2), 6)))
        self.assertEqual(region, Region(3, LINES[:1]))

    def test_with_equal_line(self):
        self.assertEqual(len(Region(3, LINES).with_line((0, 1), 5)), 4)

    def test_with_bad_line(self):
        region = Region(3, LINES)
        self.assert_raises(BadRegion, (3, "stops"), region.with_line, (1,), 0)
        self.assert_raises(BadRegion, (3, "range"), region.with_line, (3, 0), 0)
        self.assert_raises(BadRegion, (3, "order"), region.with_line, (1, 1), 0)
        self.assert_raises(BadRegion, (3, "number"), region.with_line, (0, 1), 0)
        self.assert_raises(BadRegion, (0, "range"), Region.bare(1).with_line, (0, 1), 1)
        self.assertEqual(region, Region(3, LINES))

    def test_without(self):
        region = Region(3, LINES)
        self.assert_is(region.without(0).lines, (LINES[1], LINES[2]))
        self.assert_is(region.without(1).lines, (LINES[0], LINES[2]))
        self.assert_is(region.without(2).lines, (LINES[0], LINES[1]))
        self.assertEqual(region, Region(3, LINES))
        self.assertEqual(Region(3, LINES[:1]).without(0), Region.bare(3))

    def test_without_what_is_not_there(self):
        for index in (-1, -3, 3, 10 ** 9):
            self.assert_raises(BadRegion, (index, "index"), Region(3, LINES).without, index)
        self.assert_raises(BadRegion, (0, "index"), Region.bare(3).without, 0)
