"""Point [29]: raised regions, slack and levels."""

from itertools import permutations, product

from tests.checks import Checks
from tests.worlds import regions_of
from villagelines.least.slack import levels_of, raised, slack_of
from villagelines.lots.closing import lot_of
from villagelines.region.book import Region

EXAMPLE = Region(3, [((0, 1), 5), ((1, 2), 6)])
CENSUSES = [list(census) for census in product((0, 1, 4), repeat=3)]
REGIONS = [EXAMPLE, Region.bare(3), Region(3, [((0, 1), 3), ((0, 1), 3)]), *regions_of(3, (2, 6), 2)[::7]]


def slack_one_by_one(region, census, one, other):
    """The slack, found by looking at each t, or None."""
    for by in range(sum(census), -region.greatest - 1, -1):
        if other in lot_of(raised(region, by), census, one):
            return by
    return None


class TestRaised(Checks):

    def test_raised(self):
        self.assertIsInstance(raised(EXAMPLE, 2), Region)
        self.assertEqual(raised(EXAMPLE, 2), Region(3, [((0, 1), 7), ((1, 2), 8)]))
        self.assertEqual(raised(EXAMPLE, 0), EXAMPLE)
        self.assertEqual(raised(EXAMPLE, -4), Region(3, [((0, 1), 1), ((1, 2), 2)]))

    def test_less_than_one_is_one(self):
        self.assertEqual(raised(EXAMPLE, -5), Region(3, [((0, 1), 1), ((1, 2), 1)]))
        self.assertEqual(raised(EXAMPLE, -10 ** 15), Region(3, [((0, 1), 1), ((1, 2), 1)]))

    def test_above_the_bound(self):
        self.assertEqual(raised(EXAMPLE, 10 ** 15), Region(3, [((0, 1), 10 ** 15 + 5), ((1, 2), 10 ** 15 + 6)]))

    def test_no_lines(self):
        self.assertEqual(raised(Region.bare(2), -7), Region.bare(2))

    def test_clean(self):
        self.assert_clean(lambda region, by: raised(region, by).lines, EXAMPLE, -5)


class TestSlack(Checks):

    def test_examples(self):
        self.assert_is(slack_of(EXAMPLE, [3, 2, 1], 0, 1), 0)
        self.assert_is(slack_of(EXAMPLE, [3, 2, 1], 1, 2), 0)
        self.assert_is(slack_of(EXAMPLE, [3, 4, 1], 0, 1), 2)
        self.assert_is(slack_of(EXAMPLE, [3, 4, 1], 2, 0), 2)
        self.assert_is(slack_of(EXAMPLE, [1, 1, 0], 0, 1), -3)
        self.assert_is(slack_of(EXAMPLE, [1, 1, 0], 0, 2), -4)

    def test_all_numbers_one(self):
        self.assert_is(slack_of(EXAMPLE, [1, 0, 0], 0, 1), -4)
        self.assert_is(slack_of(EXAMPLE, [1, 0, 0], 0, 2), -5)
        self.assert_is(slack_of(Region(2, [((0, 1), 1)]), [0, 1], 0, 1), 0)

    def test_none(self):
        self.assert_is(slack_of(EXAMPLE, [0, 0, 0], 0, 1), None)
        self.assert_is(slack_of(Region(3, [((0, 1), 3)]), [9, 9, 9], 0, 2), None)
        self.assert_is(slack_of(Region.bare(2), [9, 9], 0, 1), None)

    def test_equal_lines(self):
        self.assert_is(slack_of(Region(2, [((0, 1), 3), ((0, 1), 3)]), [2, 3], 1, 0), 2)

    def test_every_census(self):
        for region, census in product(REGIONS, CENSUSES):
            for one, other in permutations(range(3), 2):
                slack = slack_of(region, census, one, other)
                self.assert_is(slack, slack_one_by_one(region, census, one, other))

    def test_least_of_three_is_told_twice(self):
        for region, census in product(REGIONS, CENSUSES):
            slacks = [slack_of(region, census, *pair) for pair in ((0, 1), (0, 2), (1, 2))]
            told = sorted([-10 ** 9 if slack is None else slack for slack in slacks])
            self.assertEqual(told[0], told[1])

    def test_great_numbers(self):
        region = Region(2, [((0, 1), 10 ** 12)])
        self.assert_is(self.assert_short(slack_of, region, [10 ** 14, 10 ** 14], 0, 1), 2 * 10 ** 14 - 10 ** 12)
        self.assert_is(self.assert_short(slack_of, region, [1, 0], 0, 1), 1 - 10 ** 12)
        chain = Region(7, [((at, at + 1), 10 ** 12 - at) for at in range(6)] + [((0, 2, 4, 6), 10 ** 12)] * 2)
        self.assert_is(self.assert_short(slack_of, chain, [10 ** 14] * 7, 0, 6), 4 * 10 ** 14 - 10 ** 12)

    def test_clean(self):
        self.assert_clean(slack_of, EXAMPLE, [3, 4, 1], 0, 2)
        self.assert_clean(slack_of, EXAMPLE, [0, 0, 0], 0, 2)


class TestLevels(Checks):

    def test_example(self):
        self.assert_is(levels_of(EXAMPLE, [3, 4, 1]), [[None, 2, 2], [2, None, 2], [2, 2, None]])
        self.assert_is(levels_of(EXAMPLE, [1, 1, 0]), [[None, -3, -4], [-3, None, -4], [-4, -4, None]])

    def test_no_lines_and_one_village(self):
        self.assert_is(levels_of(Region.bare(2), [4, 4]), [[None, None], [None, None]])
        self.assert_is(levels_of(Region.bare(1), [4]), [[None]])

    def test_every_census(self):
        for region, census in product(REGIONS[::2], CENSUSES[::2]):
            wanted = [[None if one == other else slack_one_by_one(region, census, one, other) for other in range(3)]
                      for one in range(3)]
            self.assert_is(levels_of(region, census), wanted)

    def test_at_the_bounds(self):
        region = Region(5, [((0, 1, 2, 3, 4), 10 ** 12 - at) for at in range(8)])
        levels = self.assert_short(levels_of, region, [10 ** 14] * 5)
        most = 5 * 10 ** 14 - 10 ** 12 + 7
        self.assert_is(levels, [[None if one == other else most for other in range(5)] for one in range(5)])

    def test_clean(self):
        self.assert_clean(levels_of, EXAMPLE, [3, 4, 1])
