"""Point [35]: stuck censuses."""

from tests.checks import Checks
from tests.narrow import EXAMPLE, FOUR, GREATEST, ONE, THREE, TWO, censuses_to
from villagelines.books.stuck import most_stuck, stuck_census
from villagelines.lots.closing import lots_of
from villagelines.region.book import Region


def is_stuck(region, census):
    """True if two villages that have heads are in different lots."""
    return len([lot for lot in lots_of(region, census) if any(census[village] for village in lot)]) > 1


def stuck_censuses(region, most):
    """All stuck censuses with entries up to the most, ascending."""
    return [census for census in censuses_to(region.villages, most) if is_stuck(region, census)]


class TestCensus(Checks):

    def test_examples(self):
        self.assert_is(stuck_census(EXAMPLE, 2), [0, 1, 1])
        self.assert_is(stuck_census(EXAMPLE, 6), [1, 0, 5])
        self.assert_is(stuck_census(EXAMPLE, 9), [4, 0, 5])
        self.assert_is(stuck_census(EXAMPLE, 10), None)

    def test_count_of_none_and_one(self):
        for region in THREE + TWO + FOUR + ONE:
            self.assert_is(stuck_census(region, 0), None)
            self.assert_is(stuck_census(region, 1), None)

    def test_no_lines_and_one_village(self):
        self.assert_is(stuck_census(Region.bare(2), 16), [1, 15])
        self.assert_is(stuck_census(Region.bare(1), 16), None)

    def test_empty_villages_may_be_in_other_lots(self):
        region = Region(3, [((0, 1), 2)])
        self.assert_is(stuck_census(region, 2), [0, 1, 1])
        self.assert_is(stuck_census(Region(3, [((0, 1), 2), ((1, 2), 2), ((0, 2), 2)]), 2), None)

    def test_every_count(self):
        for region in TWO + THREE[::2]:
            stuck = stuck_censuses(region, 8)
            for count in range(9):
                wanted = [census for census in stuck if sum(census) == count]
                self.assert_is(stuck_census(region, count), wanted[0] if wanted else None)
        for region in FOUR:
            stuck = stuck_censuses(region, 4)
            for count in range(5):
                wanted = [census for census in stuck if sum(census) == count]
                self.assert_is(stuck_census(region, count), wanted[0] if wanted else None)

    def test_at_the_bounds(self):
        for region in GREATEST:
            self.assert_short(stuck_census, region, 12 if region.villages == 4 else 16)

    def test_clean(self):
        self.assert_clean(stuck_census, EXAMPLE, 6)
        self.assert_clean(stuck_census, EXAMPLE, 10)


class TestMost(Checks):

    def test_interface(self):
        found = most_stuck(Region(3, [((0, 1), 5), ((1, 2), 6)]))
        self.assert_is(found, (9, [4, 0, 5], [[0], [1], [2]]))

    def test_no_census_is_stuck(self):
        self.assert_is(most_stuck(Region(2, [((0, 1), 1)])), (0, None, None))
        self.assert_is(most_stuck(Region(2, [((0, 1), 2)])), (0, None, None))
        self.assert_is(most_stuck(Region.bare(1)), (0, None, None))

    def test_no_greatest_number(self):
        for region in (Region.bare(2), Region(3, [((0, 2), 3)]), Region(4, [((0, 1), 1), ((2, 3), 1)]), Region.bare(4)):
            self.assert_is(most_stuck(region), None)

    def test_first_census_of_the_greatest_number(self):
        region = Region(3, [((0, 1), 3), ((1, 2), 3)])
        self.assert_is(most_stuck(region), (4, [2, 0, 2], [[0], [1], [2]]))
        self.assert_is(most_stuck(Region(2, [((0, 1), 6)])), (5, [1, 4], [[0], [1]]))

    def test_every_region(self):
        for region in TWO + THREE + FOUR:
            # Whoever lives in a village with so many heads can go wherever lines connect.
            stuck = stuck_censuses(region, region.greatest)
            connected = len(lots_of(region, [region.greatest] * region.villages)) == 1
            found = most_stuck(region)
            if not connected:
                self.assert_is(found, None)
            elif not stuck:
                self.assert_is(found, (0, None, None))
            else:
                most = max(sum(census) for census in stuck)
                census = [census for census in stuck if sum(census) == most][0]
                self.assert_is(found, (most, census, lots_of(region, census)))
                for count in range(2, 13):
                    self.assertIs(stuck_census(region, count) is None, count > most)

    def test_at_the_bounds(self):
        for region in GREATEST:
            self.assert_short(most_stuck, region)
        self.assert_is(most_stuck(GREATEST[0])[:2], (6, [0, 3, 0, 3]))

    def test_clean(self):
        self.assert_clean(most_stuck, EXAMPLE)
        self.assert_clean(most_stuck, Region.bare(1))
