"""Point [28]: the least pairs of newcomers at two villages."""

from itertools import permutations, product

from tests.checks import Checks
from tests.worlds import regions_of
from villagelines.least.pairs import least_pairs
from villagelines.lots.closing import lots_of
from villagelines.lots.divisions import place_of
from villagelines.lots.shut import is_shut_for_all
from villagelines.region.book import Region

EXAMPLE = Region(3, [((0, 1), 5), ((1, 2), 6)])
CENSUSES = [[0, 0, 0], [1, 0, 2], [3, 2, 0], [0, 2, 4]]
REGIONS = [
    EXAMPLE,
    Region.bare(3),
    Region(3, [((0, 1), 3)]),
    Region(3, [((0, 1, 2), 7), ((0, 2), 4), ((0, 2), 4)]),
    *regions_of(3, (2, 5), 2)[::13],
]


def grown(census, first, second, pair):
    """The census with the pair of newcomers."""
    added = {first: pair[0], second: pair[1]}
    return [many + added.get(village, 0) for village, many in enumerate(census)]


def pairs_one_by_one(region, census, first, second, one, other):
    """The least pairs and their corners, found by looking at each pair."""
    most = region.greatest

    def division_at(here, there):
        pair = (most if here is None else here, most if there is None else there)
        return lots_of(region, grown(census, first, second, pair))

    def is_enough(here, there):
        if here < 0 or there < 0:
            return False
        lots = division_at(here, there)
        return place_of(lots, one) == place_of(lots, other)

    pairs = [(here, there) for here, there in product(range(most + 1), repeat=2)
             if is_enough(here, there) and not is_enough(here - 1, there) and not is_enough(here, there - 1)]
    if not pairs:
        return pairs, [(None, None, division_at(None, None))]
    corners = [(here - 1, None) for here, _ in pairs[:1] if here > 0]
    corners += [(pairs[at + 1][0] - 1, pairs[at][1] - 1) for at in range(len(pairs) - 1)]
    corners += [(None, there - 1) for _, there in pairs[-1:] if there > 0]
    return pairs, [(here, there, division_at(here, there)) for here, there in corners]


class TestPairs(Checks):

    def test_interface(self):
        found = least_pairs(Region(2, [((0, 1), 3)]), [0, 1], 0, 1, 0, 1)
        self.assert_is(found, ([(0, 2), (1, 1), (2, 0)], [(0, 1, [[0], [1]]), (1, 0, [[0], [1]])]))

    def test_none_are_needed(self):
        self.assert_is(least_pairs(EXAMPLE, [3, 2, 0], 0, 2, 0, 1), ([(0, 0)], []))

    def test_one_village_must_grow(self):
        self.assert_is(least_pairs(Region(3, [((0, 1), 3)]), [0, 0, 0], 0, 2, 0, 1),
                       ([(3, 0)], [(2, None, [[0], [1], [2]])]))
        self.assert_is(least_pairs(Region(3, [((0, 1), 3)]), [0, 0, 0], 2, 0, 0, 1),
                       ([(0, 3)], [(None, 2, [[0], [1], [2]])]))

    def test_pairs_that_are_no_neighbours(self):
        region = Region(4, [((0, 1), 4), ((2, 3), 4), ((1, 2), 10)])
        self.assert_is(least_pairs(region, [0, 0, 0, 0], 0, 3, 1, 2), (
            [(0, 10), (4, 6), (5, 5), (6, 4), (10, 0)],
            [(3, 9, [[0], [1], [2, 3]]), (4, 5, [[0, 1], [2, 3]]), (5, 4, [[0, 1], [2, 3]]),
             (9, 3, [[0, 1], [2], [3]])],
        ))

    def test_no_least_pair(self):
        region = Region(4, [((0, 1), 3), ((2, 3), 8)])
        self.assert_is(least_pairs(region, [0, 0, 0, 0], 0, 1, 0, 2), ([], [(None, None, [[0, 1], [2], [3]])]))
        self.assert_is(least_pairs(region, [0, 0, 0, 0], 0, 2, 0, 2), ([], [(None, None, [[0, 1], [2, 3]])]))

    def test_no_lines(self):
        self.assert_is(least_pairs(Region.bare(2), [4, 4], 0, 1, 0, 1), ([], [(None, None, [[0], [1]])]))

    def test_every_case(self):
        for region, census in product(REGIONS, CENSUSES):
            for (first, second), (one, other) in product(permutations(range(3), 2), repeat=2):
                given = (region, census, first, second, one, other)
                self.assert_is(least_pairs(*given), pairs_one_by_one(*given))

    def test_corners_bar_all_that_is_not_enough(self):
        for region, census in product(REGIONS[:8], CENSUSES):
            _, corners = least_pairs(region, census, 0, 2, 0, 1)
            for here, there, division in corners:
                least = (here or 0, there or 0)
                growing = [village for village, many in ((0, here), (2, there)) if many is None]
                self.assertIs(is_shut_for_all(region, grown(census, 0, 2, least), division, growing), True)
                self.assertNotEqual(place_of(division, 0), place_of(division, 1))

    def test_at_the_bounds(self):
        region = Region(5, [((0, 1), 12), ((1, 2), 11), ((2, 3), 12), ((3, 4), 7), ((0, 2, 4), 9)])
        given = (region, [0, 1, 0, 2, 0], 0, 4, 1, 3)
        self.assert_is(self.assert_short(least_pairs, *given), pairs_one_by_one(*given))

    def test_clean(self):
        self.assert_clean(least_pairs, EXAMPLE, [0, 1, 2], 0, 2, 1, 2)
        self.assert_clean(least_pairs, Region.bare(2), [0, 1], 0, 1, 0, 1)
