"""Point [44]: the fillings of lots."""

from itertools import product
from math import prod

from tests.checks import Checks
from tests.worlds import SMALL_WORLDS, WORLDS, placings_of, ways_from
from villagelines.classes.fillings import fillings, lot_fillings
from villagelines.lots.closing import lots_of
from villagelines.region.book import Region
from villagelines.region.census import census_of

EXAMPLE = Region(3, [((0, 1), 5), ((1, 2), 6)])


def fillings_by_definition(region, heads, villages, families):
    """The number of fillings, each tried in a region that has these villages alone."""
    place = {village: at for at, village in enumerate(villages)}
    lines = [(tuple(place[stop] for stop in stops), number) for stops, number in region if set(stops) <= set(villages)]
    small = Region(len(villages), lines)
    living = [heads[family] for family in families]
    return sum(len(lots_of(small, census_of(small, living, placing))) == 1
               for placing in product(range(len(villages)), repeat=len(families)))


class TestFillings(Checks):

    def test_example(self):
        self.assert_is(fillings(EXAMPLE, [3, 2, 1], (0, 1), (0, 1)), 4)
        self.assert_is(fillings(EXAMPLE, [3, 2, 1], (0, 1), (0, 2)), 0)
        self.assert_is(fillings(EXAMPLE, [3, 2, 1], (0, 1, 2), (0, 1, 2)), 18)
        self.assert_is(fillings(EXAMPLE, [3, 2, 1], (0, 2), (0, 1, 2)), 0)

    def test_no_families(self):
        self.assert_is(fillings(EXAMPLE, [3, 2, 1], (1,), ()), 1)
        self.assert_is(fillings(EXAMPLE, [], (2,), ()), 1)
        self.assert_is(fillings(EXAMPLE, [3, 2, 1], (0, 1), ()), 0)
        self.assert_is(fillings(Region(3, [((0, 1, 2), 1)]), [], (0, 1, 2), ()), 0)

    def test_one_village(self):
        self.assert_is(fillings(EXAMPLE, [3, 2, 1], (2,), (0, 2)), 1)
        self.assert_is(fillings(Region.bare(1), [3, 2, 1], (0,), (0, 1, 2)), 1)

    def test_only_lines_within_the_villages_count(self):
        region = Region(3, [((0, 1, 2), 1), ((0, 1), 5)])
        self.assert_is(fillings(region, [3, 2], (0, 1), (0,)), 0)
        self.assert_is(fillings(region, [3, 2], (0, 1), (0, 1)), 4)
        self.assert_is(fillings(region, [3, 2], (0, 1, 2), (0,)), 3)

    def test_worlds(self):
        for region, heads in WORLDS + SMALL_WORLDS[::9]:
            chosen = list(product((False, True), repeat=region.villages))[1:]
            living = list(product((False, True), repeat=len(heads)))[::2]
            for here, there in list(product(chosen, living))[::2]:
                villages = tuple(village for village, taken in enumerate(here) if taken)
                families = tuple(family for family, taken in enumerate(there) if taken)
                self.assert_is(fillings(region, heads, villages, families),
                               fillings_by_definition(region, heads, villages, families))

    def test_clean(self):
        self.assert_clean(fillings, EXAMPLE, [3, 2, 1], (0, 1), (0, 1))


class TestLotFillings(Checks):

    def test_example(self):
        self.assert_is(lot_fillings(EXAMPLE, [3, 2, 1], [1, 0, 2]), [((0, 1, 2), (0, 1, 2), 18)])
        self.assert_is(lot_fillings(Region(4, [((0, 1), 5)]), [3, 1, 2], [1, 2, 0]),
                       [((0, 1), (0, 2), 4), ((2,), (1,), 1), ((3,), (), 1)])

    def test_lots_without_families(self):
        self.assert_is(lot_fillings(EXAMPLE, [3, 2], [2, 0]), [((0,), (1,), 1), ((1,), (), 1), ((2,), (0,), 1)])
        self.assert_is(lot_fillings(EXAMPLE, [], []), [((0,), (), 1), ((1,), (), 1), ((2,), (), 1)])

    def test_one_village(self):
        self.assert_is(lot_fillings(Region.bare(1), [3, 2], [0, 0]), [((0,), (0, 1), 1)])

    def test_product_is_the_size_of_the_class(self):
        for region, heads in WORLDS + SMALL_WORLDS[::3]:
            for placing in placings_of(region, heads)[::2]:
                triples = lot_fillings(region, heads, placing)
                lots = lots_of(region, census_of(region, heads, placing))
                self.assert_is([lot for lot, _, _ in triples], [tuple(lot) for lot in lots])
                self.assert_is([families for _, families, _ in triples],
                               [tuple(at for at, home in enumerate(placing) if home in lot) for lot in lots])
                self.assertEqual(prod(number for _, _, number in triples), len(ways_from(region, heads, placing)))

    def test_at_the_bounds(self):
        region = Region(5, [((0, 1, 2, 3, 4), 3 * 10 ** 12)] * 8)
        self.assert_is(self.assert_short(lot_fillings, region, [10 ** 12] * 3, [4, 4, 4]),
                       [((0, 1, 2, 3, 4), (0, 1, 2), 125)])

    def test_clean(self):
        self.assert_clean(lot_fillings, EXAMPLE, [3, 2, 1], [1, 0, 2])
