"""Point [15]: settled placings and classes."""

from tests.checks import Checks
from tests.worlds import WORLDS, placings_of, ways_from
from villagelines.lots.closing import lots_of
from villagelines.lots.divisions import place_of
from villagelines.lots.settling import same_class, settled_placing
from villagelines.region.book import Region
from villagelines.region.census import census_of

EXAMPLE = Region(3, [((0, 1), 5), ((1, 2), 6)])


def same_lots(region, heads, one, other):
    """True if the lots are equal and each family is in the same lot in both."""
    lots = lots_of(region, census_of(region, heads, one))
    if lots != lots_of(region, census_of(region, heads, other)):
        return False
    return all(place_of(lots, here) == place_of(lots, there) for here, there in zip(one, other))


class TestSettled(Checks):

    def test_examples(self):
        self.assert_is(settled_placing(EXAMPLE, [3, 2, 1], [0, 1, 2]), [0, 0, 0])
        self.assert_is(settled_placing(EXAMPLE, [3, 2], [1, 0]), [0, 0])
        self.assert_is(settled_placing(EXAMPLE, [3, 1], [0, 1]), [0, 1])
        self.assert_is(settled_placing(EXAMPLE, [6, 1], [2, 0]), [0, 0])

    def test_lots_without_the_first_village(self):
        self.assert_is(settled_placing(EXAMPLE, [4, 2, 1], [2, 1, 0]), [0, 0, 0])
        region = Region(4, [((1, 3), 2)])
        self.assert_is(settled_placing(region, [1, 1, 5], [3, 1, 2]), [1, 1, 2])

    def test_exactly_enough(self):
        self.assert_is(settled_placing(Region(2, [((0, 1), 5)]), [5], [1]), [0])
        self.assert_is(settled_placing(Region(2, [((0, 1), 5)]), [4], [1]), [1])

    def test_no_families_no_lines_one_village(self):
        self.assert_is(settled_placing(EXAMPLE, [], []), [])
        self.assert_is(settled_placing(Region.bare(3), [9, 9], [2, 1]), [2, 1])
        self.assert_is(settled_placing(Region.bare(1), [9, 9], [0, 0]), [0, 0])

    def test_great_heads(self):
        region = Region(7, [((0, 6), 6 * 10 ** 12)])
        self.assert_is(settled_placing(region, [10 ** 12] * 6, [6] * 6), [0] * 6)
        self.assert_is(settled_placing(region, [10 ** 12] * 6, [6, 6, 6, 6, 6, 5]), [6, 6, 6, 6, 6, 5])

    def test_in_the_same_class(self):
        for region, heads in WORLDS:
            for placing in placings_of(region, heads):
                settled = settled_placing(region, heads, placing)
                self.assertIn(tuple(settled), ways_from(region, heads, placing))
                self.assert_is(settled_placing(region, heads, settled), settled)

    def test_clean(self):
        self.assert_clean(settled_placing, EXAMPLE, [3, 2, 1], [0, 1, 2])
        self.assert_clean(settled_placing, Region.bare(2), [3, 2], [0, 1])


class TestSameClass(Checks):

    def test_examples(self):
        self.assertIs(same_class(EXAMPLE, [3, 2], [0, 1], [1, 1]), True)
        self.assertIs(same_class(EXAMPLE, [3, 2], [0, 1], [0, 2]), False)
        self.assertIs(same_class(EXAMPLE, [3, 2, 1], [0, 1, 2], [2, 0, 1]), False)

    def test_equal_lots_but_families_in_others(self):
        region = Region(4, [((0, 1), 2), ((2, 3), 2)])
        self.assertIs(same_class(region, [2, 2], [0, 2], [2, 0]), False)
        self.assertIs(same_class(region, [2, 2], [0, 2], [1, 3]), True)

    def test_no_families(self):
        self.assertIs(same_class(EXAMPLE, [], [], []), True)

    def test_exactly_what_moves_lead_to(self):
        for region, heads in WORLDS:
            placings = placings_of(region, heads)
            for one in placings:
                reached = ways_from(region, heads, one)
                for other in placings:
                    wanted = tuple(other) in reached
                    self.assertIs(same_class(region, heads, one, other), wanted)
                    self.assertIs(same_lots(region, heads, one, other), wanted)

    def test_clean(self):
        self.assert_clean(same_class, EXAMPLE, [3, 2, 1], [0, 1, 2], [2, 0, 1])
