"""Point [45]: all numbers of heads that a village can have."""

from tests.checks import Checks
from tests.worlds import SMALL_WORLDS, WORLDS, placings_of, ways_from
from villagelines.classes.spectrum import spectrum
from villagelines.region.book import Region
from villagelines.region.census import census_of
from villagelines.ways.ever import heads_range

EXAMPLE = Region(3, [((0, 1), 5), ((1, 2), 6)])


class TestSpectrum(Checks):

    def test_example(self):
        self.assert_is(spectrum(EXAMPLE, [3, 2], [0, 1], 0), [0, 2, 3, 5])
        self.assert_is(spectrum(EXAMPLE, [3, 2], [0, 1], 2), [0])
        self.assert_is(spectrum(EXAMPLE, [3, 2], [2, 1], 2), [3])
        self.assert_is(spectrum(EXAMPLE, [3, 2, 1], [0, 1, 2], 2), [0, 1, 2, 3, 4, 5, 6])

    def test_equal_numbers_stand_once(self):
        self.assert_is(spectrum(Region(2, [((0, 1), 2)]), [2, 2, 2], [0, 0, 1], 1), [0, 2, 4, 6])

    def test_no_families_and_one_village(self):
        self.assert_is(spectrum(EXAMPLE, [], [], 1), [0])
        self.assert_is(spectrum(Region.bare(1), [3, 4], [0, 0], 0), [7])

    def test_worlds(self):
        for region, heads in WORLDS + SMALL_WORLDS[::5]:
            for placing in placings_of(region, heads)[::4]:
                reached = ways_from(region, heads, placing)
                for village in range(region.villages):
                    found = spectrum(region, heads, placing, village)
                    self.assert_is(found, sorted({census_of(region, heads, other)[village] for other in reached}))
                    self.assert_is((found[0], found[-1]), heads_range(region, heads, placing, village))

    def test_at_the_bounds(self):
        region = Region(2, [((0, 1), 10 ** 12)] * 8)
        heads = [10 ** 12 - at for at in range(5)]
        found = self.assert_short(spectrum, region, [*heads, 10 ** 12], [0] * 6, 1)
        self.assert_is((found[0], found[-1]), (0, 6 * 10 ** 12 - 10))

    def test_clean(self):
        self.assert_clean(spectrum, EXAMPLE, [3, 2], [0, 1], 0)
