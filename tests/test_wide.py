"""Point [54], with points [12] and [13]: wide regions, their crowds, their lots and leaks."""

from itertools import product

from tests.checks import Checks
from villagelines.errors import BadRegion
from villagelines.lots.closing import lots_of
from villagelines.lots.divisions import divisions_of, singles
from villagelines.lots.order import is_finer, meet_of
from villagelines.lots.shut import leak_of
from villagelines.needs.need import Need
from villagelines.needs.wide import WideRegion, crowds_of, wide_leak, wide_lots, widened
from villagelines.region.book import Region

BOTH = Need(2, [(2, 1)])
EITHER = Need(2, [(3, 0), (0, 2)])
ONE = Need.of(1, 0, 1)
EXAMPLE = WideRegion(3, 2, [((0, 1), BOTH), ((1, 2), EITHER)])
REGIONS = [
    WideRegion(3, 2, []),
    EXAMPLE,
    WideRegion(3, 2, [((0, 1, 2), EITHER), ((0, 2), BOTH), ((0, 2), BOTH)]),
]
CROWDS = [list(crowds) for crowds in product(product(range(3), range(2)), repeat=3)]
DIVISIONS = list(divisions_of(3))


def added(crowds):
    return tuple(sum(numbers) for numbers in zip(*crowds))


def leaks_of(region, crowds, division):
    """The indexes of all lines that leak, by the definition."""
    found = []
    for at, (stops, need) in enumerate(region.lines):
        touched = [block for block in division if set(block) & set(stops)]
        if len(touched) >= 2 and need(added([crowds[village] for block in touched for village in block])):
            found.append(at)
    return found


class TestMaking(Checks):

    def test_attributes(self):
        lines = [((0, 1), BOTH), ((1, 2), EITHER)]
        region = WideRegion(3, 2, lines)
        self.assert_is((region.villages, region.kinds), (3, 2))
        self.assertIs(type(region.lines), tuple)
        self.assertEqual(region.lines, tuple(lines))
        lines.clear()
        self.assertEqual(len(region.lines), 2)

    def test_smallest_and_largest(self):
        self.assert_is(WideRegion(1, 1, []).lines, ())
        region = WideRegion(5, 3, [((0, 1, 2, 3, 4), Need.of(3, 2, 10 ** 60 - 1))] * 5)
        self.assertEqual(len(region.lines), 5)

    def test_villages(self):
        for villages in (0, -1):
            self.assert_raises(BadRegion, (-1, "villages"), WideRegion, villages, 1, [])
        self.assert_raises(BadRegion, (-1, "villages"), WideRegion, 0, 1, [((), BOTH)])

    def test_faults_of_a_line(self):
        faults = {(): "stops", (1,): "stops", (0, 3): "range", (-1, 1): "range", (1, 0): "order", (1, 1): "order",
                  (0, 2, 1): "order", (0, 1): "kinds"}
        for stops, why in faults.items():
            self.assert_raises(BadRegion, (0, why), WideRegion, 3, 1, [(stops, BOTH)])
            self.assert_raises(BadRegion, (1, why), WideRegion, 3, 1, [((0, 1), ONE), (stops, BOTH)])

    def test_faults_of_one_line_in_order(self):
        self.assert_raises(BadRegion, (0, "stops"), WideRegion, 3, 1, [((9,), BOTH)])
        self.assert_raises(BadRegion, (0, "range"), WideRegion, 3, 1, [((3, 0), BOTH)])
        self.assert_raises(BadRegion, (0, "order"), WideRegion, 3, 1, [((1, 0), BOTH)])

    def test_kinds(self):
        self.assert_raises(BadRegion, (0, "kinds"), WideRegion, 2, 3, [((0, 1), BOTH)])
        self.assert_raises(BadRegion, (1, "kinds"), WideRegion, 2, 2, [((0, 1), BOTH), ((0, 1), ONE)])

    def test_first_line_is_told_first(self):
        lines = [((0, 1), BOTH), ((0, 1), ONE), ((), BOTH)]
        self.assert_raises(BadRegion, (1, "kinds"), WideRegion, 2, 2, lines)

    def test_no_region(self):
        self.assertIs(Region.bare(2) == WideRegion(2, 1, []), False)
        self.assertIs(WideRegion(2, 1, []) == Region.bare(2), False)
        self.assertNotIsInstance(WideRegion(2, 1, []), Region)
        for name in ("__len__", "__iter__", "__contains__", "__add__"):
            self.assertFalse(hasattr(WideRegion, name))


class TestWidened(Checks):

    def test_needs(self):
        wide = widened(Region(3, [((0, 1), 5), ((0, 1, 2), 10 ** 12)]))
        self.assertIsInstance(wide, WideRegion)
        self.assert_is((wide.villages, wide.kinds), (3, 1))
        self.assertEqual(wide.lines, (((0, 1), Need.of(1, 0, 5)), ((0, 1, 2), Need.of(1, 0, 10 ** 12))))

    def test_no_lines(self):
        wide = widened(Region.bare(1))
        self.assert_is((wide.villages, wide.kinds, wide.lines), (1, 1, ()))

    def test_same_lots_and_leaks(self):
        region = Region(3, [((0, 1), 3), ((1, 2), 4), ((0, 1, 2), 6)])
        for census in product(range(5), repeat=3):
            crowds = [(many,) for many in census]
            self.assert_is(wide_lots(widened(region), crowds), lots_of(region, list(census)))
            for division in DIVISIONS:
                self.assert_is(wide_leak(widened(region), crowds, division), leak_of(region, list(census), division))


class TestCrowds(Checks):

    def test_added_kind_by_kind(self):
        families = [(2, 1), (0, 3), (1, 0)]
        self.assert_is(crowds_of(EXAMPLE, families, [1, 1, 0]), [(1, 0), (2, 4), (0, 0)])
        self.assert_is(crowds_of(EXAMPLE, families, [2, 2, 2]), [(0, 0), (0, 0), (3, 4)])

    def test_nobody_and_no_families(self):
        self.assert_is(crowds_of(EXAMPLE, [(0, 0)], [1]), [(0, 0)] * 3)
        self.assert_is(crowds_of(EXAMPLE, [], []), [(0, 0)] * 3)
        self.assert_is(crowds_of(WideRegion(1, 3, []), [(1, 2, 3), (1, 0, 0)], [0, 0]), [(2, 2, 3)])

    def test_great_numbers(self):
        great = 10 ** 59
        self.assert_is(crowds_of(widened(Region.bare(2)), [(great,)] * 5, [1] * 5), [(0,), (5 * great,)])

    def test_clean(self):
        self.assert_clean(lambda *given: crowds_of(EXAMPLE, *given), [(2, 1), (0, 3)], [1, 2])


class TestLots(Checks):

    def test_every_kind_is_needed(self):
        self.assert_is(wide_lots(EXAMPLE, [(1, 0), (1, 0), (0, 0)]), singles(3))
        self.assert_is(wide_lots(EXAMPLE, [(1, 0), (1, 1), (0, 0)]), [[0, 1], [2]])

    def test_one_row_is_enough(self):
        self.assert_is(wide_lots(EXAMPLE, [(0, 0), (0, 1), (0, 1)]), [[0], [1, 2]])
        self.assert_is(wide_lots(EXAMPLE, [(0, 0), (3, 0), (0, 0)]), [[0], [1, 2]])

    def test_a_joined_block_brings_all_its_people(self):
        self.assert_is(wide_lots(EXAMPLE, [(2, 0), (0, 1), (1, 0)]), [[0, 1, 2]])

    def test_no_lines_and_one_village(self):
        self.assert_is(wide_lots(WideRegion(2, 1, []), [(9,), (9,)]), [[0], [1]])
        self.assert_is(wide_lots(WideRegion(1, 1, []), [(0,)]), [[0]])

    def test_leak(self):
        self.assert_is(wide_leak(EXAMPLE, [(2, 0), (0, 1), (1, 0)], singles(3)), 0)
        self.assert_is(wide_leak(EXAMPLE, [(2, 0), (0, 1), (1, 0)], [[0, 1], [2]]), 1)
        self.assert_is(wide_leak(EXAMPLE, [(2, 0), (0, 1), (0, 0)], [[0, 1], [2]]), None)
        self.assert_is(wide_leak(EXAMPLE, [(9, 9)] * 3, [[0, 1, 2]]), None)

    def test_every_case(self):
        for region, crowds in product(REGIONS, CROWDS):
            shut = []
            for division in DIVISIONS:
                leaks = leaks_of(region, crowds, division)
                self.assert_is(wide_leak(region, crowds, division), leaks[0] if leaks else None)
                if not leaks:
                    shut.append(division)
            lots = wide_lots(region, crowds)
            self.assertIn(lots, shut)
            self.assertEqual([division for division in shut if not is_finer(lots, division)], [])
            self.assertEqual([one for one in shut if meet_of(one, shut[-1]) not in shut], [])

    def test_at_the_bounds(self):
        rows = [(at * 10 ** 58, (39 - at) * 10 ** 58, 1) for at in range(40)]
        region = WideRegion(5, 3, [((0, 1, 2, 3, 4), Need(3, rows)), *[((at, at + 1), Need(3, rows)) for at in range(4)]])
        crowds = [(10 ** 58, 38 * 10 ** 58, 1)] + [(0, 0, 0)] * 4
        self.assert_is(self.assert_short(wide_lots, region, crowds), [[0, 1, 2, 3, 4]])
        crowds[0] = (10 ** 58, 38 * 10 ** 58, 0)
        self.assert_is(self.assert_short(wide_lots, region, crowds), singles(5))

    def test_clean(self):
        crowds = [(2, 0), (0, 1), (1, 0)]
        self.assert_clean(lambda *given: wide_lots(EXAMPLE, *given), crowds)
        self.assert_clean(lambda *given: wide_leak(EXAMPLE, *given), crowds, [[0, 1], [2]])
        self.assertEqual(EXAMPLE.lines, (((0, 1), BOTH), ((1, 2), EITHER)))
