"""Point [27]: the least newcomers that bring two villages into one lot."""

from itertools import permutations, product

from tests.checks import Checks
from tests.test_stairs import CENSUSES, EXAMPLE, REGIONS, with_newcomers
from villagelines.least.newcomers import newcomers_for
from villagelines.lots.closing import joins_of, lots_of
from villagelines.lots.divisions import place_of
from villagelines.lots.judge import fault_of_joins
from villagelines.lots.shut import is_shut_for_all
from villagelines.region.book import Region


def in_one_lot(region, census, one, other):
    lots = lots_of(region, census)
    return place_of(lots, one) == place_of(lots, other)


def least_one_by_one(region, census, village, one, other):
    """The least number of newcomers, found by looking at each, or None."""
    for newcomers in range(region.greatest + 1):
        if in_one_lot(region, with_newcomers(census, village, newcomers), one, other):
            return newcomers
    return None


class TestNewcomers(Checks):

    def test_interface(self):
        found = newcomers_for(Region(3, [((0, 1), 5), ((1, 2), 6)]), [3, 2, 0], 2, 0, 2)
        self.assert_is(found, ('newcomers', 1, [0, 1], [[0, 1], [2]]))

    def test_none_are_needed(self):
        self.assert_is(newcomers_for(EXAMPLE, [3, 2, 0], 2, 0, 1), ("newcomers", 0, [0], None))
        self.assert_is(newcomers_for(EXAMPLE, [3, 2, 0], 0, 1, 0), ("newcomers", 0, [0], None))

    def test_all_joins_are_told(self):
        region = Region(5, [((3, 4), 2), ((0, 1), 3), ((1, 2), 4)])
        self.assert_is(newcomers_for(region, [0, 0, 0, 1, 1], 0, 0, 1),
                       ("newcomers", 3, [0, 1], [[0], [1], [2], [3, 4]]))

    def test_village_may_be_neither(self):
        self.assert_is(newcomers_for(EXAMPLE, [0, 0, 0], 1, 0, 2), ("newcomers", 6, [0, 1], [[0, 1], [2]]))
        self.assert_is(newcomers_for(EXAMPLE, [0, 0, 0], 1, 2, 0), ("newcomers", 6, [0, 1], [[0, 1], [2]]))

    def test_never(self):
        region = Region(4, [((0, 1), 3), ((2, 3), 8)])
        self.assert_is(newcomers_for(region, [0, 0, 0, 0], 0, 0, 2), ("never", [[0, 1], [2], [3]]))
        self.assert_is(newcomers_for(region, [0, 0, 0, 0], 3, 0, 1), ("never", [[0], [1], [2, 3]]))
        self.assert_is(newcomers_for(region, [3, 0, 0, 0], 3, 1, 2), ("never", [[0, 1], [2, 3]]))

    def test_no_lines(self):
        self.assert_is(newcomers_for(Region.bare(2), [4, 5], 0, 0, 1), ("never", [[0], [1]]))

    def test_equal_lines(self):
        region = Region(2, [((0, 1), 3), ((0, 1), 3)])
        self.assert_is(newcomers_for(region, [0, 1], 1, 0, 1), ("newcomers", 2, [0], [[0], [1]]))

    def test_every_census(self):
        for region, census, village in product(REGIONS, CENSUSES, range(3)):
            for one, other in permutations(range(3), 2):
                count = least_one_by_one(region, census, village, one, other)
                found = newcomers_for(region, census, village, one, other)
                if count is None:
                    most = with_newcomers(census, village, region.greatest)
                    self.assert_is(found, ("never", lots_of(region, most)))
                    self.assertIs(is_shut_for_all(region, census, found[1], [village]), True)
                else:
                    joins = joins_of(region, with_newcomers(census, village, count))
                    fewer = lots_of(region, with_newcomers(census, village, count - 1)) if count else None
                    self.assert_is(found, ("newcomers", count, joins, fewer))
                    self.assertIsNone(fault_of_joins(region, with_newcomers(census, village, count), found[2]))

    def test_great_numbers(self):
        region = Region(7, [((at, at + 1), 10 ** 12 - at) for at in range(6)] + [((0, 3), 10 ** 12)] * 2)
        found = self.assert_short(newcomers_for, region, [0] * 7, 6, 6, 0)
        self.assert_is(found[:2], ("newcomers", 10 ** 12))
        self.assert_is(found[3], [[0], [1, 2, 3, 4, 5, 6]])
        found = self.assert_short(newcomers_for, Region(3, [((0, 1), 10 ** 12)]), [10 ** 14] * 3, 2, 0, 2)
        self.assert_is(found, ("never", [[0, 1], [2]]))

    def test_clean(self):
        self.assert_clean(newcomers_for, EXAMPLE, [3, 2, 0], 2, 0, 2)
        self.assert_clean(newcomers_for, EXAMPLE, [3, 2, 0], 2, 0, 1)
        self.assert_clean(newcomers_for, Region.bare(2), [3, 2], 1, 0, 1)
