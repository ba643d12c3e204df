"""Point [12]: lots and joins."""

from itertools import product

from tests.checks import Checks
from villagelines.lots.closing import joins_of, lot_of, lots_of
from villagelines.lots.divisions import divisions_of, singles
from villagelines.region.book import Region

EXAMPLE = Region(3, [((0, 1), 5), ((1, 2), 6)])
REGIONS = [
    Region.bare(4),
    Region(4, [((0, 1), 3), ((1, 2), 4), ((2, 3), 2), ((0, 3), 7)]),
    Region(4, [((0, 1, 2, 3), 6), ((1, 3), 2), ((1, 3), 2), ((0, 2), 3)]),
    Region(4, [((2, 3), 5), ((1, 2, 3), 6), ((0, 1), 1), ((0, 3), 8)]),
]
CENSUSES = [list(census) for census in product(range(4), repeat=4)]


def blocks_at(division, stops):
    return [block for block in division if not set(block).isdisjoint(stops)]


def leaks(line, census, division):
    touched = blocks_at(division, line[0])
    return len(touched) > 1 and sum(census[village] for block in touched for village in block) >= line[1]


def shut_divisions(region, census):
    return [division for division in divisions_of(region.villages)
            if not any(leaks(line, census, division) for line in region.lines)]


def joined(division, stops):
    touched = blocks_at(division, stops)
    return sorted([block for block in division if block not in touched] + [sorted(sum(touched, []))])


def closed_last_first(region, census):
    """The lots, found by taking each time the last line that can join."""
    division = singles(region.villages)
    while True:
        able = [line for line in region.lines if leaks(line, census, division)]
        if not able:
            return division
        division = joined(division, able[-1][0])


class TestExamples(Checks):

    def test_interface(self):
        self.assert_is(lots_of(EXAMPLE, [3, 2, 0]), [[0, 1], [2]])
        self.assert_is(joins_of(EXAMPLE, [3, 2, 1]), [0, 1])

    def test_nothing_joins(self):
        self.assert_is(lots_of(EXAMPLE, [3, 1, 4]), [[0], [1], [2]])
        self.assert_is(joins_of(EXAMPLE, [3, 1, 4]), [])

    def test_a_joined_block_brings_all_its_heads(self):
        self.assert_is(lots_of(EXAMPLE, [5, 0, 1]), [[0, 1, 2]])
        self.assert_is(joins_of(EXAMPLE, [5, 0, 1]), [0, 1])

    def test_a_later_line_may_wake_an_earlier_one(self):
        region = Region(3, [((0, 1), 7), ((1, 2), 5)])
        self.assert_is(joins_of(region, [2, 1, 4]), [1, 0])
        self.assert_is(lots_of(region, [2, 1, 4]), [[0, 1, 2]])

    def test_least_index_is_taken_each_time(self):
        region = Region(4, [((0, 1), 9), ((2, 3), 2), ((1, 2), 4), ((0, 3), 1)])
        self.assert_is(joins_of(region, [5, 2, 2, 0]), [1, 2, 0])

    def test_equal_lines_join_once(self):
        region = Region(2, [((0, 1), 2), ((0, 1), 2)])
        self.assert_is(joins_of(region, [1, 1]), [0])

    def test_line_with_several_stops_joins_them_all(self):
        region = Region(5, [((0, 2, 4), 3), ((1, 3), 3)])
        self.assert_is(lots_of(region, [1, 2, 1, 0, 1]), [[0, 2, 4], [1], [3]])
        self.assert_is(joins_of(region, [1, 2, 1, 0, 1]), [0])

    def test_exactly_enough(self):
        region = Region(2, [((0, 1), 5)])
        self.assert_is(lots_of(region, [5, 0]), [[0, 1]])
        self.assert_is(lots_of(region, [0, 4]), [[0], [1]])

    def test_one_village(self):
        self.assert_is(lots_of(Region.bare(1), [7]), [[0]])
        self.assert_is(joins_of(Region.bare(1), [7]), [])

    def test_no_lines(self):
        self.assert_is(lots_of(Region.bare(3), [10 ** 14] * 3), [[0], [1], [2]])
        self.assert_is(joins_of(Region.bare(3), [10 ** 14] * 3), [])

    def test_great_heads(self):
        region = Region(7, [((at, at + 1), 10 ** 12) for at in range(6)])
        self.assert_is(lots_of(region, [10 ** 12, 0, 0, 0, 0, 0, 10 ** 14]), [list(range(7))])
        self.assert_is(lots_of(region, [10 ** 12 - 1, 0, 0, 0, 0, 0, 0]), singles(7))

    def test_lot_of(self):
        self.assert_is([lot_of(EXAMPLE, [3, 2, 0], village) for village in range(3)], [[0, 1], [0, 1], [2]])
        self.assert_is(lot_of(Region.bare(1), [0], 0), [0])


class TestEveryCensus(Checks):

    def test_same_whatever_line_is_taken(self):
        for region in REGIONS:
            for census in CENSUSES:
                self.assertEqual(lots_of(region, census), closed_last_first(region, census))

    def test_shut_and_finest(self):
        for region in REGIONS:
            for census in CENSUSES[::5]:
                lots = lots_of(region, census)
                shut = shut_divisions(region, census)
                self.assertIn(lots, shut)
                for division in shut:
                    self.assertTrue(all(len(blocks_at(division, lot)) == 1 for lot in lots))

    def test_joins_lead_to_the_lots(self):
        for region in REGIONS:
            for census in CENSUSES:
                division = singles(region.villages)
                for index in joins_of(region, census):
                    able = [at for at, line in enumerate(region.lines) if leaks(line, census, division)]
                    self.assertEqual(index, able[0])
                    division = joined(division, region.lines[index][0])
                self.assertEqual(division, lots_of(region, census))

    def test_lot_of_is_the_block(self):
        for region in REGIONS:
            for census in CENSUSES[::7]:
                for village in range(4):
                    lot = lot_of(region, census, village)
                    self.assertIn(village, lot)
                    self.assertIn(lot, lots_of(region, census))

    def test_clean(self):
        self.assert_clean(lots_of, EXAMPLE, [3, 2, 0])
        self.assert_clean(joins_of, EXAMPLE, [3, 2, 1])
        self.assert_clean(lot_of, EXAMPLE, [3, 2, 1], 1)
