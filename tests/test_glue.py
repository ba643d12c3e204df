"""Point [37]: gluing two sides at their gates."""

from itertools import product

from tests.checks import Checks
from tests.sides import LARGE, ONE_GATE, TWO_GATES
from villagelines.errors import BadSide
from villagelines.region.book import Region
from villagelines.sides.glue import glued
from villagelines.sides.side import Side

LEFT = Side(Region(3, [((0, 1), 5), ((1, 2), 6)]), [3, 2, 1], (1,))


class TestGlued(Checks):

    def assert_glued(self, left, right, villages, lines, census, places):
        """The two sides make this region with this census, and the right side's villages have these places."""
        found = glued(left, right)
        self.assertIs(type(found), tuple)
        self.assertIs(type(found[0]), Region)
        self.assert_is((found[0].villages, found[0].lines, found[1], found[2]), (villages, lines, census, places))

    def test_one_gate(self):
        right = Side(Region(3, [((0, 2), 4), ((0, 1, 2), 7)]), [10, 20, 40], (2,))
        self.assert_glued(LEFT, right, 5, (((0, 1), 5), ((1, 2), 6), ((1, 3), 4), ((1, 3, 4), 7)),
                          [3, 42, 1, 10, 20], [3, 4, 1])

    def test_two_gates(self):
        left = Side(LEFT.region, [3, 2, 1], (0, 2))
        right = Side(Region(3, [((0, 1), 4)]), [10, 20, 40], (1, 0))
        self.assert_glued(left, right, 4, (((0, 1), 5), ((1, 2), 6), ((0, 2), 4)), [23, 2, 11, 40], [2, 0, 3])

    def test_gates_in_any_order(self):
        right = Side(Region(3, [((0, 1), 4), ((1, 2), 8)]), [10, 20, 40], (0, 1))
        for gates, places in (((0, 2), [0, 2, 3]), ((2, 0), [2, 0, 3]), ((1, 0), [1, 0, 3])):
            found = glued(Side(LEFT.region, [3, 2, 1], gates), right)
            self.assert_is(found[2], places)
            self.assert_is(found[0].lines[2][0], tuple(sorted(places[:2])))
            self.assert_is(found[0].lines[3][0], tuple(sorted(places[1:])))

    def test_all_villages_are_gates(self):
        small = Side(Region(2, [((0, 1), 3)]), [1, 4], (1, 0))
        self.assert_glued(small, small, 2, (((0, 1), 3), ((0, 1), 3)), [2, 8], [0, 1])
        turned = Side(Region(2, [((0, 1), 3)]), [1, 4], (0, 1))
        self.assert_glued(small, turned, 2, (((0, 1), 3), ((0, 1), 3)), [5, 5], [1, 0])

    def test_one_village(self):
        alone = Side(Region.bare(1), [4], (0,))
        self.assert_glued(alone, alone, 1, (), [8], [0])
        self.assert_glued(LEFT, alone, 3, (((0, 1), 5), ((1, 2), 6)), [3, 6, 1], [1])
        self.assert_glued(alone, LEFT, 3, (((0, 1), 5), ((0, 2), 6)), [6, 3, 1], [1, 0, 2])

    def test_at_the_bounds(self):
        side = Side(Region(4, [((0, 1, 2, 3), 10 ** 12)] * 4), [10 ** 14] * 4, (3,))
        self.assert_glued(side, side, 7, (((0, 1, 2, 3), 10 ** 12),) * 4 + (((3, 4, 5, 6), 10 ** 12),) * 4,
                          [10 ** 14] * 3 + [2 * 10 ** 14] + [10 ** 14] * 3, [4, 5, 6, 3])

    def test_every_pair(self):
        for left, right in list(product(ONE_GATE, repeat=2))[::7] + list(product(TWO_GATES, repeat=2))[::7]:
            region, census, places = glued(left, right)
            self.assertEqual([places[gate] for gate in right.gates], list(left.gates))
            others = [places[village] for village in range(right.region.villages) if village not in right.gates]
            self.assertEqual(others, list(range(left.region.villages, region.villages)))
            self.assertEqual(sum(census), sum(left.census) + sum(right.census))
            self.assertEqual(region.lines[:len(left.region)], left.region.lines)
            for (stops, number), (before, told) in zip(region.lines[len(left.region):], right.region.lines):
                self.assertEqual((sorted(places[stop] for stop in before), told), (list(stops), number))

    def test_other_numbers_of_gates(self):
        two = Side(Region.bare(2), [0, 0], (0, 1))
        self.assert_raises(BadSide, ("gates",), glued, LEFT, two)
        self.assert_raises(BadSide, ("gates",), glued, two, LEFT)

    def test_clean(self):
        def told(left, right):
            region, census, places = glued(left, right)
            return region.villages, region.lines, census, places
        self.assert_clean(told, *LARGE)
        self.assert_clean(told, LEFT, LEFT)
