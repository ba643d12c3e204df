"""Points [22] and [23]: what holds for every row of moves from a placing."""

from tests.checks import Checks
from tests.worlds import SMALL_WORLDS, WORLDS, placings_of, ways_from
from villagelines.region.book import Region
from villagelines.region.census import census_of, heads_in, running_lines
from villagelines.ways.ever import can_live, company_of, fate_of, heads_range, holds

EXAMPLE = Region(3, [((0, 1), 5), ((1, 2), 6)])
ALL_WORLDS = WORLDS + SMALL_WORLDS[::3]


def classes():
    """Each placing of the worlds, with all placings that can come of it."""
    for region, heads in ALL_WORLDS:
        for placing in placings_of(region, heads):
            yield region, heads, placing, list(ways_from(region, heads, placing))


class TestFamilies(Checks):

    def test_examples(self):
        self.assert_is(can_live(EXAMPLE, [3, 2], [0, 1], 0), [0, 1])
        self.assert_is(can_live(EXAMPLE, [3, 2, 1], [0, 1, 2], 2), [0, 1, 2])
        self.assert_is(can_live(EXAMPLE, [3, 1], [0, 2], 1), [2])
        self.assert_is(company_of(EXAMPLE, [3, 2, 1], [0, 1, 2], 1), [0, 2])
        self.assert_is(company_of(EXAMPLE, [3, 2], [0, 1], 0), [1])
        self.assert_is(company_of(EXAMPLE, [3, 1, 1, 1], [0, 2, 1, 2], 3), [1])

    def test_no_lines_and_one_village(self):
        self.assert_is(can_live(Region.bare(3), [9], [1], 0), [1])
        self.assert_is(company_of(Region.bare(3), [9, 8, 7], [1, 2, 1], 0), [2])
        self.assert_is(can_live(Region.bare(1), [9], [0], 0), [0])
        self.assert_is(company_of(Region.bare(1), [9], [0], 0), [])
        self.assert_is(company_of(Region.bare(1), [9, 9], [0, 0], 1), [0])

    def test_every_row_of_moves(self):
        for region, heads, placing, reached in classes():
            for family in range(len(heads)):
                homes = sorted({after[family] for after in reached})
                self.assert_is(can_live(region, heads, placing, family), homes)
                others = [other for other in range(len(heads)) if other != family]
                company = [other for other in others if any(after[other] == after[family] for after in reached)]
                self.assert_is(company_of(region, heads, placing, family), company)

    def test_clean(self):
        self.assert_clean(can_live, EXAMPLE, [3, 2, 1], [0, 1, 2], 2)
        self.assert_clean(company_of, EXAMPLE, [3, 2, 1], [0, 1, 2], 2)


class TestHeads(Checks):

    def test_examples(self):
        self.assert_is(heads_range(EXAMPLE, [3, 2], [0, 1], 0), (0, 5))
        self.assert_is(heads_range(EXAMPLE, [3, 2], [0, 1], 2), (0, 0))
        self.assert_is(heads_range(EXAMPLE, [3, 1], [0, 0], 0), (4, 4))

    def test_no_families_no_lines_one_village(self):
        self.assert_is(heads_range(EXAMPLE, [], [], 0), (0, 0))
        self.assert_is(heads_range(Region.bare(2), [3, 4], [1, 1], 1), (7, 7))
        self.assert_is(heads_range(Region.bare(1), [3, 4], [0, 0], 0), (7, 7))

    def test_every_row_of_moves(self):
        for region, heads, placing, reached in classes():
            for village in range(region.villages):
                counts = [census_of(region, heads, after)[village] for after in reached]
                self.assert_is(heads_range(region, heads, placing, village), (min(counts), max(counts)))

    def test_clean(self):
        self.assert_clean(heads_range, EXAMPLE, [3, 2, 1], [0, 1, 2], 2)


class TestFate(Checks):

    def test_examples(self):
        self.assert_is([fate_of(EXAMPLE, [3, 2], [0, 1], line) for line in (0, 1)], ["always", "never"])
        self.assert_is([fate_of(EXAMPLE, [3, 2, 1], [0, 1, 2], line) for line in (0, 1)], ["sometimes", "sometimes"])
        self.assert_is([fate_of(EXAMPLE, [5], [2], line) for line in (0, 1)], ["never", "never"])

    def test_too_few_heads_in_a_lot_with_all_its_stops(self):
        region = Region(2, [((0, 1), 2), ((0, 1), 4), ((0, 1), 3)])
        self.assert_is([fate_of(region, [2, 1], [0, 1], line) for line in range(3)], ["always", "never", "always"])

    def test_no_families_and_equal_lines(self):
        region = Region(2, [((0, 1), 1), ((0, 1), 1)])
        self.assert_is([fate_of(region, [], [], line) for line in range(2)], ["never", "never"])
        self.assert_is([fate_of(region, [1], [1], line) for line in range(2)], ["always", "always"])

    def test_every_row_of_moves(self):
        fates = {frozenset([True]): "always", frozenset([False]): "never", frozenset([True, False]): "sometimes"}
        for region, heads, placing, reached in classes():
            for line in range(len(region)):
                ran = [line in running_lines(region, census_of(region, heads, after)) for after in reached]
                self.assert_is(fate_of(region, heads, placing, line), fates[frozenset(ran)])

    def test_clean(self):
        self.assert_clean(fate_of, EXAMPLE, [3, 2, 1], [0, 1, 2], 1)


class TestHolds(Checks):

    def test_examples(self):
        self.assertIs(holds(EXAMPLE, [3, 2], [0, 1], ("meet", 0, 1)), True)
        self.assertIs(holds(EXAMPLE, [3, 1], [0, 1], ("meet", 1, 0)), False)
        self.assertIs(holds(EXAMPLE, [3, 2], [0, 1], ("live", 1, 0)), True)
        self.assertIs(holds(EXAMPLE, [3, 2], [0, 1], ("live", 1, 2)), False)
        self.assertIs(holds(EXAMPLE, [3, 2], [0, 1], ("run", 0)), True)
        self.assertIs(holds(EXAMPLE, [3, 2], [0, 1], ("run", 1)), False)

    def test_one_village(self):
        self.assertIs(holds(Region.bare(1), [3, 1], [0, 0], ("meet", 0, 1)), True)
        self.assertIs(holds(Region.bare(1), [3, 1], [0, 0], ("live", 0, 0)), True)

    def test_every_row_of_moves(self):
        for region, heads, placing, reached in classes():
            for family in range(len(heads)):
                for other in range(len(heads)):
                    if other != family:
                        wanted = any(after[family] == after[other] for after in reached)
                        self.assertIs(holds(region, heads, placing, ("meet", family, other)), wanted)
                for village in range(region.villages):
                    wanted = any(after[family] == village for after in reached)
                    self.assertIs(holds(region, heads, placing, ("live", family, village)), wanted)
            for line, (stops, number) in enumerate(region):
                wanted = any(heads_in(census_of(region, heads, after), stops) >= number for after in reached)
                self.assertIs(holds(region, heads, placing, ("run", line)), wanted)

    def test_at_the_bounds(self):
        region = Region(7, [((at, at + 1), 10 ** 12 * (at + 1)) for at in range(6)] + [((0, 2, 4, 6), 6 * 10 ** 12)])
        heads, placing = [10 ** 12] * 6, [0, 1, 2, 3, 4, 5]
        for question in (("meet", 0, 5), ("live", 0, 6), ("run", 6)):
            self.assertIs(self.assert_short(holds, region, heads, placing, question), True)
        heads[5] -= 1
        self.assertIs(self.assert_short(holds, region, heads, placing, ("run", 6)), False)
        self.assert_is(heads_range(region, heads, placing, 3), (0, 6 * 10 ** 12 - 1))

    def test_clean(self):
        for question in (("meet", 0, 2), ("live", 0, 2), ("run", 1)):
            self.assert_clean(holds, EXAMPLE, [3, 2, 1], [0, 1, 2], question)
