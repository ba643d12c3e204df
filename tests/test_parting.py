"""Point [32]: alike regions, and what parts two."""

from itertools import product

from tests.checks import Checks
from tests.narrow import EXAMPLE, FOUR, GREATEST, ONE, THREE, TWO, censuses_to, first_unanswered
from villagelines.books.parting import alike, parting_of
from villagelines.errors import BadRegion
from villagelines.lots.closing import lots_of
from villagelines.region.book import Region

PAIRS = list(product(THREE, repeat=2)) + list(product(TWO, repeat=2))


def parting_by_definition(one, other):
    """The parting, found by the words of the document."""
    found = []
    for rank, side, asking, answering in ((0, "first", one, other), (1, "second", other, one)):
        for index, (stops, number) in enumerate(asking):
            census = first_unanswered(answering, stops, number)
            if census is not None:
                found.append((number, rank, index, (side, (stops, number), census)))
    return min(found)[3] if found else None


class TestParting(Checks):

    def test_alike(self):
        self.assert_is(parting_of(EXAMPLE, EXAMPLE), None)
        self.assert_is(parting_of(EXAMPLE, Region(3, [((1, 2), 6), ((0, 1), 5), ((0, 1, 2), 12)])), None)

    def test_sides(self):
        more = EXAMPLE.with_line((0, 2), 3)
        self.assert_is(parting_of(EXAMPLE, more), ("second", ((0, 2), 3), [0, 0, 3]))
        self.assert_is(parting_of(more, EXAMPLE), ("first", ((0, 2), 3), [0, 0, 3]))

    def test_least_number_first(self):
        one = Region(3, [((0, 1), 4), ((1, 2), 3)])
        self.assert_is(parting_of(one, Region.bare(3)), ("first", ((1, 2), 3), [0, 0, 3]))
        self.assert_is(parting_of(one, Region(3, [((0, 2), 2)])), ("second", ((0, 2), 2), [0, 0, 2]))

    def test_of_equal_numbers_the_first_region(self):
        one, other = Region(3, [((0, 1), 3)]), Region(3, [((0, 2), 3)])
        self.assert_is(parting_of(one, other), ("first", ((0, 1), 3), [0, 3, 0]))
        self.assert_is(parting_of(other, one), ("first", ((0, 2), 3), [0, 0, 3]))

    def test_of_equal_numbers_the_least_index(self):
        one = Region(3, [((0, 2), 4), ((1, 2), 3), ((0, 1), 3)])
        self.assert_is(parting_of(one, Region.bare(3)), ("first", ((1, 2), 3), [0, 0, 3]))

    def test_equal_lines(self):
        line = ((0, 1), 3)
        self.assert_is(parting_of(Region(2, [line]), Region(2, [line, line])), None)

    def test_no_lines_and_one_village(self):
        self.assert_is(parting_of(Region.bare(3), Region.bare(3)), None)
        self.assert_is(parting_of(Region.bare(1), Region.bare(1)), None)

    def test_other_villages(self):
        self.assert_raises(BadRegion, (-1, "villages"), parting_of, Region.bare(2), Region.bare(3))
        self.assert_raises(BadRegion, (-1, "villages"), parting_of, EXAMPLE, Region.bare(4))

    def test_every_pair(self):
        for one, other in PAIRS + list(product(FOUR, repeat=2))[::3]:
            self.assert_is(parting_of(one, other), parting_by_definition(one, other))

    def test_none_exactly_for_the_same_lots(self):
        for one, other in PAIRS[::2]:
            censuses = censuses_to(one.villages, max(one.greatest, other.greatest))
            parted = [census for census in censuses if lots_of(one, census) != lots_of(other, census)]
            found = parting_of(one, other)
            self.assertIs(found is None, parted == [])
            if found is not None:
                self.assertIn(found[2], parted)
                self.assertEqual([census for census in parted if sum(census) < sum(found[2])], [])

    def test_at_the_bounds(self):
        for one, other in ((GREATEST[0], GREATEST[1]), (GREATEST[1], GREATEST[1]), (GREATEST[2], GREATEST[2])):
            self.assert_short(parting_of, one, other)

    def test_clean(self):
        self.assert_clean(parting_of, EXAMPLE, EXAMPLE.with_line((0, 2), 3))
        self.assert_clean(parting_of, EXAMPLE, EXAMPLE)


class TestAlike(Checks):

    def test_no_region_and_one(self):
        self.assertIs(alike(), True)
        for region in (EXAMPLE, *ONE, *FOUR):
            self.assertIs(alike(region), True)

    def test_two(self):
        for one, other in PAIRS[::3]:
            self.assertIs(alike(one, other), parting_of(one, other) is None)

    def test_more(self):
        turned = Region(3, [((1, 2), 6), ((0, 1), 5)])
        longer = EXAMPLE.with_line((0, 1, 2), 10)
        less = EXAMPLE.without(0)
        self.assertIs(alike(EXAMPLE, turned, longer), True)
        for regions in ((less, EXAMPLE, turned), (EXAMPLE, less, turned), (EXAMPLE, turned, less),
                        (EXAMPLE, less, less), (EXAMPLE, turned, longer, less)):
            self.assertIs(alike(*regions), False)

    def test_clean(self):
        self.assert_clean(alike, EXAMPLE, EXAMPLE.without(0), EXAMPLE)
