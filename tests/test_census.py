"""Point [6]: censuses, running lines, worlds that fit."""

from tests.checks import Checks
from villagelines.errors import BadPlacing
from villagelines.region.book import Region
from villagelines.region.census import census_of, heads_in, require_world, running_lines

REGION = Region(3, [((0, 1), 5), ((1, 2), 6), ((0, 1, 2), 10)])


class TestCensus(Checks):

    def test_census(self):
        self.assert_is(census_of(REGION, [3, 2, 4], [0, 1, 0]), [7, 2, 0])
        self.assert_is(census_of(REGION, [3, 2, 4], [2, 2, 2]), [0, 0, 9])

    def test_no_families(self):
        self.assert_is(census_of(REGION, [], []), [0, 0, 0])

    def test_one_village(self):
        self.assert_is(census_of(Region.bare(1), [3, 2], [0, 0]), [5])
        self.assert_is(census_of(Region.bare(1), [], []), [0])

    def test_great_heads(self):
        self.assert_is(census_of(REGION, [10 ** 12] * 6, [1] * 6), [0, 6 * 10 ** 12, 0])

    def test_heads_in(self):
        self.assert_is(heads_in([3, 2, 7], [0, 2]), 10)
        self.assert_is(heads_in([3, 2, 7], (2, 1, 0)), 12)
        self.assert_is(heads_in([3, 2, 7], [1]), 2)

    def test_heads_in_no_village(self):
        self.assert_is(heads_in([3, 2, 7], []), 0)
        self.assert_is(heads_in([3, 2, 7], ()), 0)

    def test_running_lines(self):
        self.assert_is(running_lines(REGION, [3, 2, 4]), [0, 1])
        self.assert_is(running_lines(REGION, [3, 2, 5]), [0, 1, 2])
        self.assert_is(running_lines(REGION, [3, 1, 5]), [1])
        self.assert_is(running_lines(REGION, [0, 4, 1]), [])
        self.assert_is(running_lines(REGION, [0, 0, 0]), [])

    def test_running_needs_no_more_than_the_number(self):
        region = Region(2, [((0, 1), 5), ((0, 1), 5), ((0, 1), 6)])
        self.assert_is(running_lines(region, [5, 0]), [0, 1])
        self.assert_is(running_lines(region, [2, 2]), [])

    def test_no_lines_run(self):
        self.assert_is(running_lines(Region.bare(2), [9, 9]), [])

    def test_clean(self):
        self.assert_clean(census_of, REGION, [3, 2, 4], [0, 1, 0])
        self.assert_clean(heads_in, [3, 2, 7], [0, 2])
        self.assert_clean(running_lines, REGION, [3, 2, 5])


class TestWorld(Checks):

    def test_fits(self):
        self.assertIsNone(require_world(REGION, [1, 10 ** 12], [0, 2]))
        self.assertIsNone(require_world(REGION, [], []))

    def test_length(self):
        self.assert_raises(BadPlacing, (-1, "length"), require_world, REGION, [1, 2], [0])
        self.assert_raises(BadPlacing, (-1, "length"), require_world, REGION, [], [0])

    def test_length_before_families(self):
        self.assert_raises(BadPlacing, (-1, "length"), require_world, REGION, [0, 0], [9])

    def test_heads(self):
        self.assert_raises(BadPlacing, (1, "heads"), require_world, REGION, [1, 0], [0, 0])
        self.assert_raises(BadPlacing, (0, "heads"), require_world, REGION, [-1, 1], [0, 0])

    def test_village(self):
        self.assert_raises(BadPlacing, (1, "village"), require_world, REGION, [1, 1], [0, 3])
        self.assert_raises(BadPlacing, (0, "village"), require_world, REGION, [1, 1], [-1, 0])

    def test_heads_before_village_in_one_family(self):
        self.assert_raises(BadPlacing, (0, "heads"), require_world, REGION, [0], [3])

    def test_first_family_is_told_first(self):
        self.assert_raises(BadPlacing, (0, "village"), require_world, REGION, [1, 0], [3, 0])

    def test_clean(self):
        self.assert_clean(require_world, REGION, [3, 2, 4], [0, 1, 0])
