"""Point [43]: all classes of a world."""

from tests.checks import Checks
from tests.worlds import SMALL_WORLDS, WORLDS, placings_of, ways_from
from villagelines.classes.listing import classes_of, frozen_count
from villagelines.lots.settling import settled_placing
from villagelines.region.book import Region
from villagelines.region.moves import moves_from

EXAMPLE = Region(3, [((0, 1), 5), ((1, 2), 6)])


class TestListing(Checks):

    def test_interface(self):
        self.assert_is(classes_of(Region(2, [((0, 1), 3)]), [2, 1]), [((0, 0), 4)])
        self.assert_is(classes_of(Region(2, [((0, 1), 3)]), [2]), [((0,), 1), ((1,), 1)])

    def test_example(self):
        self.assert_is(classes_of(EXAMPLE, [3, 2]),
                       [((0, 0), 4), ((0, 2), 1), ((1, 2), 1), ((2, 0), 1), ((2, 1), 1), ((2, 2), 1)])
        self.assert_is(frozen_count(EXAMPLE, [3, 2]), 5)

    def test_no_families(self):
        for region in (EXAMPLE, Region.bare(1), Region.bare(7)):
            self.assert_is(classes_of(region, []), [((), 1)])
            self.assert_is(frozen_count(region, []), 1)

    def test_one_village(self):
        self.assert_is(classes_of(Region.bare(1), [1, 2, 3]), [((0, 0, 0), 1)])
        self.assert_is(frozen_count(Region.bare(1), [1, 2, 3]), 1)

    def test_nothing_is_frozen(self):
        region = Region(2, [((0, 1), 1)])
        self.assert_is(classes_of(region, [1]), [((0,), 2)])
        self.assert_is(frozen_count(region, [1]), 0)

    def test_worlds(self):
        for region, heads in WORLDS + SMALL_WORLDS[::3]:
            placings = placings_of(region, heads)
            sizes = {tuple(settled_placing(region, heads, placing)): len(ways_from(region, heads, placing))
                     for placing in placings}
            found = classes_of(region, heads)
            self.assert_is(found, sorted(sizes.items()))
            self.assertEqual(sum(size for _, size in found), region.villages ** len(heads))
            frozen = [placing for placing in placings if not list(moves_from(region, heads, placing))]
            self.assert_is(frozen_count(region, heads), len(frozen))

    def test_at_the_bounds(self):
        region = Region(5, [((0, 1, 2, 3, 4), 3 * 10 ** 12)] * 8)
        self.assert_is(self.assert_short(classes_of, region, [10 ** 12] * 3), [((0, 0, 0), 125)])
        self.assert_is(self.assert_short(frozen_count, region, [10 ** 12 - 1] * 3), 125)

    def test_clean(self):
        self.assert_clean(classes_of, EXAMPLE, [3, 2])
        self.assert_clean(classes_of, EXAMPLE, [])
        self.assert_clean(frozen_count, EXAMPLE, [3, 2])
