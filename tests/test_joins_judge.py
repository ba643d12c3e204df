"""Point [14]: the faults of rows of joins."""

from itertools import permutations, product

from tests.checks import Checks
from villagelines.lots.closing import joins_of, lots_of
from villagelines.lots.divisions import join_blocks, singles, touched_by
from villagelines.lots.judge import fault_of_joins
from villagelines.region.book import Region

EXAMPLE = Region(3, [((0, 1), 5), ((1, 2), 6)])
REGIONS = [
    EXAMPLE,
    Region(3, [((0, 1, 2), 4), ((0, 2), 2), ((0, 2), 2)]),
    Region(3, [((0, 1), 1), ((0, 2), 6), ((1, 2), 3)]),
    Region(4, [((0, 1), 2), ((2, 3), 2), ((1, 2), 4)]),
]


def able(region, census, blocks):
    """For each line the blocks that it can join, or None."""
    found = []
    for stops, number in region.lines:
        touched = [block for block in blocks if block & set(stops)]
        heads = sum(census[village] for block in touched for village in block)
        found.append(touched if len(touched) > 1 and heads >= number else None)
    return found


def is_right(region, census, row):
    """True if the row is right, by the definition and by sets."""
    blocks = [frozenset([village]) for village in range(region.villages)]
    for line in row:
        touched = able(region, census, blocks)[line]
        if touched is None:
            return False
        blocks = [block for block in blocks if block not in touched] + [frozenset().union(*touched)]
    return not any(able(region, census, blocks))


class TestFaults(Checks):

    def test_none(self):
        self.assert_is(fault_of_joins(EXAMPLE, [3, 2, 1], [0, 1]), None)
        self.assert_is(fault_of_joins(EXAMPLE, [3, 2, 0], [0]), None)

    def test_empty_row(self):
        self.assert_is(fault_of_joins(EXAMPLE, [4, 0, 0], []), None)
        self.assert_is(fault_of_joins(EXAMPLE, [5, 0, 0], []), (0, "more"))

    def test_no_lines_and_one_village(self):
        for villages in (1, 3):
            self.assert_is(fault_of_joins(Region.bare(villages), [9] * villages, []), None)
            self.assert_is(fault_of_joins(Region.bare(villages), [9] * villages, [0]), (0, "line"))

    def test_line(self):
        for line in (-1, -2, 2, 10 ** 9):
            self.assert_is(fault_of_joins(EXAMPLE, [3, 2, 1], [0, line]), (1, "line"))
            self.assert_is(fault_of_joins(EXAMPLE, [3, 2, 1], [line, 0]), (0, "line"))

    def test_one(self):
        self.assert_is(fault_of_joins(EXAMPLE, [3, 2, 1], [0, 0, 1]), (1, "one"))
        self.assert_is(fault_of_joins(EXAMPLE, [3, 2, 1], [0, 1, 0]), (2, "one"))

    def test_one_goes_before_few(self):
        region = Region(3, [((0, 1), 2), ((0, 1), 9)])
        self.assert_is(fault_of_joins(region, [1, 1, 0], [0, 1]), (1, "one"))

    def test_equal_lines(self):
        region = Region(2, [((0, 1), 2), ((0, 1), 2)])
        self.assert_is(fault_of_joins(region, [1, 1], [0]), None)
        self.assert_is(fault_of_joins(region, [1, 1], [1]), None)
        self.assert_is(fault_of_joins(region, [1, 1], [1, 0]), (1, "one"))

    def test_few(self):
        self.assert_is(fault_of_joins(EXAMPLE, [3, 1, 9], [0]), (0, "few"))
        self.assert_is(fault_of_joins(EXAMPLE, [3, 2, 0], [0, 1]), (1, "few"))
        self.assert_is(fault_of_joins(EXAMPLE, [3, 2, 1], [1, 0]), (0, "few"))

    def test_exactly_enough(self):
        self.assert_is(fault_of_joins(EXAMPLE, [5, 0, 1], [0, 1]), None)
        self.assert_is(fault_of_joins(EXAMPLE, [4, 0, 1], [0, 1]), (0, "few"))

    def test_more(self):
        self.assert_is(fault_of_joins(EXAMPLE, [3, 2, 1], [0]), (1, "more"))
        self.assert_is(fault_of_joins(EXAMPLE, [5, 5, 5], [1]), (1, "more"))

    def test_first_place_is_told_first(self):
        self.assert_is(fault_of_joins(EXAMPLE, [3, 2, 0], [1, -1]), (0, "few"))
        self.assert_is(fault_of_joins(EXAMPLE, [3, 2, 1], [0, 0, 7]), (1, "one"))
        self.assert_is(fault_of_joins(EXAMPLE, [3, 2, 1], [7, 0, 0]), (0, "line"))

    def test_great_heads(self):
        region = Region(7, [((at, at + 1), 10 ** 12) for at in range(6)])
        census = [10 ** 12, 0, 0, 0, 0, 0, 10 ** 14]
        self.assert_is(fault_of_joins(region, census, [5, 4, 3, 2, 1, 0]), None)
        self.assert_is(fault_of_joins(region, census, [0, 2]), (1, "few"))

    def test_clean(self):
        self.assert_clean(fault_of_joins, EXAMPLE, [3, 2, 1], [0, 1])
        self.assert_clean(fault_of_joins, EXAMPLE, [3, 2, 1], [0, 0])


class TestEveryRow(Checks):

    def test_right_by_the_definition(self):
        for region in REGIONS:
            rows = [row for many in range(4) for row in product(range(len(region)), repeat=many)]
            for census in product(range(0, 5, 2), repeat=region.villages):
                for row in rows:
                    fault = fault_of_joins(region, list(census), list(row))
                    self.assertIs(fault is None, is_right(region, census, row))

    def test_joins_are_right(self):
        for region in REGIONS:
            for census in product(range(4), repeat=region.villages):
                self.assertIsNone(fault_of_joins(region, list(census), joins_of(region, list(census))))

    def test_any_right_order_leads_to_the_lots(self):
        region = REGIONS[3]
        right = []
        for row in permutations(range(3)):
            if fault_of_joins(region, [2, 0, 2, 0], list(row)) is None:
                division = singles(4)
                for line in row:
                    division = join_blocks(division, touched_by(division, region.lines[line][0]))
                self.assertEqual(division, lots_of(region, [2, 0, 2, 0]))
                right.append(row)
        self.assertEqual(right, [(0, 1, 2), (0, 2, 1), (1, 0, 2)])
