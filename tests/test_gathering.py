"""Points [19] and [20]: gathering a lot in a village."""

from tests.checks import Checks
from tests.worlds import SMALL_WORLDS, WORLDS, placings_of
from villagelines.lots.closing import lot_of
from villagelines.region.book import Region
from villagelines.region.census import census_of
from villagelines.region.walks import walk
from villagelines.ways.gathering import gathering

EXAMPLE = Region(3, [((0, 1), 5), ((1, 2), 6)])


class TestGathering(Checks):

    def assert_gathers(self, region, heads, placing, village):
        """The moves lead all of the lot to the village, nobody else moves, and they are few enough."""
        moves = gathering(region, heads, placing, village)
        self.assertIs(type(moves), list)
        self.assertEqual({type(move) for move in moves} - {tuple}, set())
        lot = lot_of(region, census_of(region, heads, placing), village)
        inside = [family for family, home in enumerate(placing) if home in lot]
        wanted = [village if family in inside else home for family, home in enumerate(placing)]
        self.assert_is(walk(region, heads, placing, moves), wanted)
        self.assertLessEqual({move[0] for move in moves}, set(inside))
        self.assertLessEqual(len(moves), len(inside) * len(lot) * (len(lot) + 1) // 2)

    def test_lot_of_one_village(self):
        self.assert_is(gathering(EXAMPLE, [3, 1, 4], [0, 1, 2], 1), [])
        self.assert_is(gathering(EXAMPLE, [3, 1, 3], [0, 0, 2], 2), [])

    def test_one_line(self):
        region = Region(2, [((0, 1), 3)])
        self.assert_is(walk(region, [2, 1], [0, 1], gathering(region, [2, 1], [0, 1], 0)), [0, 0])
        self.assert_is(walk(region, [2, 1], [0, 1], gathering(region, [2, 1], [0, 1], 1)), [1, 1])
        self.assert_is(gathering(region, [1, 1], [0, 1], 0), [])

    def test_no_families_no_lines_one_village(self):
        self.assert_is(gathering(EXAMPLE, [], [], 1), [])
        self.assert_is(gathering(Region.bare(3), [3, 2], [0, 1], 2), [])
        self.assert_is(gathering(Region.bare(1), [3, 2], [0, 0], 0), [])

    def test_village_where_all_live_already(self):
        for village in (0, 1, 2):
            self.assert_gathers(EXAMPLE, [4, 3], [village] * 2, village)

    def test_village_where_nobody_lives(self):
        region = Region(4, [((0, 1), 3), ((2, 3), 1), ((1, 2), 3)])
        for village in range(4):
            self.assert_gathers(region, [2, 1], [0, 1], village)

    def test_people_go_together_where_none_could_go_alone(self):
        # Only all ten heads together keep these lines running.
        region = Region(4, [((0, 1), 10), ((1, 2), 10), ((2, 3), 10)])
        for village in range(4):
            self.assert_gathers(region, [4, 3, 3], [0, 1, 0], village)

    def test_blocks_come_to_the_line_before_it_runs(self):
        # The last line wants all heads at 1 and 3, and they live at 0 and 2.
        region = Region(4, [((0, 1), 2), ((2, 3), 2), ((1, 3), 4)])
        for village in range(4):
            self.assert_gathers(region, [2, 2], [0, 2], village)

    def test_equal_lines(self):
        region = Region(3, [((0, 1), 2), ((0, 1), 2), ((1, 2), 2), ((1, 2), 2)])
        for village in range(3):
            self.assert_gathers(region, [1, 1], [0, 1], village)

    def test_other_lots_stay(self):
        region = Region(5, [((0, 1), 2), ((2, 3, 4), 3)])
        for village in range(5):
            self.assert_gathers(region, [1, 1, 2, 1], [0, 1, 3, 4], village)

    def test_worlds(self):
        for region, heads in WORLDS + SMALL_WORLDS:
            for placing in placings_of(region, heads):
                for village in range(region.villages):
                    self.assert_gathers(region, heads, placing, village)

    def test_at_the_bounds(self):
        chain = Region(7, [((at, at + 1), 10 ** 12 * (at + 1)) for at in range(6)])
        for region in (chain, Region(7, [(line[0], line[1]) for line in chain.lines[::-1]])):
            for village in range(7):
                self.assert_short(self.assert_gathers, region, [10 ** 12] * 6, list(range(6)), village)
        wide = Region(7, [((0, 1, 2, 3, 4), 1), ((2, 3, 4, 5, 6), 6 * 10 ** 12)] * 4)
        self.assert_short(self.assert_gathers, wide, [10 ** 12] * 6, [0, 1, 2, 3, 4, 6], 5)

    def test_clean(self):
        self.assert_clean(gathering, EXAMPLE, [3, 2, 1], [0, 1, 2], 2)
        self.assert_clean(gathering, Region.bare(2), [3, 2], [0, 1], 1)
