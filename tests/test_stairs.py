"""Point [26]: newcomers at a village, and the staircase of its lot."""

from itertools import product

from tests.checks import Checks
from tests.worlds import regions_of
from villagelines.least.stairs import staircase
from villagelines.lots.closing import lot_of, lots_of
from villagelines.region.book import Region

EXAMPLE = Region(3, [((0, 1), 5), ((1, 2), 6)])
CENSUSES = [list(census) for census in product((0, 1, 3), repeat=3)]
REGIONS = [
    Region.bare(3),
    EXAMPLE,
    Region(3, [((0, 1, 2), 7), ((0, 2), 4), ((0, 2), 4)]),
    *regions_of(3, (2, 5), 2)[::3],
    *regions_of(3, (4, 7), 3)[::29],
]


def with_newcomers(census, village, newcomers):
    return [many + newcomers if at == village else many for at, many in enumerate(census)]


def steps_one_by_one(region, census, village):
    """The staircase, found by looking at each number of newcomers."""
    steps = []
    for newcomers in range(region.greatest + 1):
        lot = lot_of(region, with_newcomers(census, village, newcomers), village)
        if not steps or lot != steps[-1][1]:
            steps.append((newcomers, lot, sum(census[at] for at in lot)))
    return steps


class TestStaircase(Checks):

    def test_interface(self):
        steps = staircase(Region(3, [((0, 1), 5), ((1, 2), 6)]), [3, 2, 0], 2)
        self.assert_is(steps, [(0, [2], 0), (1, [0, 1, 2], 5)])

    def test_several_steps(self):
        self.assert_is(staircase(EXAMPLE, [1, 0, 2], 0), [(0, [0], 1), (4, [0, 1, 2], 3)])
        self.assert_is(staircase(EXAMPLE, [0, 0, 0], 0), [(0, [0], 0), (5, [0, 1], 0), (6, [0, 1, 2], 0)])
        self.assert_is(staircase(EXAMPLE, [0, 0, 0], 2), [(0, [2], 0), (6, [0, 1, 2], 0)])

    def test_each_number_stands_once(self):
        region = Region(4, [((0, 1), 3), ((0, 2), 3), ((2, 3), 3)])
        self.assert_is(staircase(region, [0, 0, 0, 0], 0), [(0, [0], 0), (3, [0, 1, 2, 3], 0)])

    def test_a_lot_that_is_great_from_the_beginning(self):
        self.assert_is(staircase(EXAMPLE, [3, 2, 1], 1), [(0, [0, 1, 2], 6)])
        self.assert_is(staircase(EXAMPLE, [3, 2, 0], 0), [(0, [0, 1], 5), (1, [0, 1, 2], 5)])

    def test_other_lots_are_joined_as_a_whole(self):
        region = Region(4, [((0, 1), 3), ((2, 3), 2), ((1, 2), 9)])
        self.assert_is(staircase(region, [0, 0, 1, 1], 0), [(0, [0], 0), (3, [0, 1], 0), (7, [0, 1, 2, 3], 2)])

    def test_lines_that_pass_by_the_lot_do_not_count(self):
        region = Region(4, [((2, 3), 2), ((0, 1), 9)])
        self.assert_is(staircase(region, [0, 1, 0, 0], 0), [(0, [0], 0), (8, [0, 1], 1)])

    def test_equal_lines(self):
        region = Region(2, [((0, 1), 3), ((0, 1), 3)])
        self.assert_is(staircase(region, [0, 1], 1), [(0, [1], 1), (2, [0, 1], 1)])

    def test_no_lines_and_one_village(self):
        self.assert_is(staircase(Region.bare(3), [4, 5, 6], 1), [(0, [1], 5)])
        self.assert_is(staircase(Region.bare(1), [4], 0), [(0, [0], 4)])

    def test_villages_that_no_lines_connect(self):
        region = Region(4, [((0, 1), 3), ((2, 3), 1)])
        self.assert_is(staircase(region, [0, 0, 0, 0], 1), [(0, [1], 0), (3, [0, 1], 0)])

    def test_every_census(self):
        for region, census, village in product(REGIONS, CENSUSES, range(3)):
            self.assert_is(staircase(region, census, village), steps_one_by_one(region, census, village))

    def test_other_lots_stay(self):
        for region, census, village in product(REGIONS, CENSUSES[::3], range(3)):
            others = [lot for lot in lots_of(region, census) if village not in lot]
            for newcomers, lot, _ in staircase(region, census, village):
                lots = lots_of(region, with_newcomers(census, village, newcomers))
                self.assertEqual(lots, sorted([lot] + [other for other in others if not set(other) <= set(lot)]))

    def test_great_numbers(self):
        region = Region(7, [((at, at + 1), 10 ** 12 - at) for at in range(6)] + [((0, 3), 10 ** 12)] * 2)
        steps = self.assert_short(staircase, region, [0] * 6 + [10 ** 6], 0)
        self.assert_is(steps, [(0, [0], 0), (10 ** 12, [0, 1, 2, 3, 4, 5, 6], 10 ** 6)])
        steps = self.assert_short(staircase, region, [0] * 7, 6)
        self.assert_is([step[0] for step in steps], [0] + [10 ** 12 - at for at in (5, 4, 3, 2, 1, 0)])
        steps = self.assert_short(staircase, Region(2, [((0, 1), 10 ** 12)]), [10 ** 14, 1], 1)
        self.assert_is(steps, [(0, [0, 1], 10 ** 14 + 1)])

    def test_clean(self):
        self.assert_clean(staircase, EXAMPLE, [0, 0, 0], 0)
        self.assert_clean(staircase, Region.bare(2), [1, 2], 1)
