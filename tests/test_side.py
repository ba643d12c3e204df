"""Point [36]: sides."""

from tests.checks import Checks
from villagelines.errors import BadSide
from villagelines.region.book import Region
from villagelines.sides.side import Side

REGION = Region(3, [((0, 1), 5), ((1, 2), 6)])


class TestSide(Checks):

    def test_attributes(self):
        side = Side(REGION, [3, 0, 1], (2, 0))
        self.assertEqual(side.region, REGION)
        self.assert_is((side.census, side.gates), ((3, 0, 1), (2, 0)))
        self.assert_is(Side(REGION, [3, 0, 1], (1,)).gates, (1,))

    def test_smallest_and_largest(self):
        self.assert_is(Side(Region.bare(1), [0], (0,)).census, (0,))
        region = Region(4, [((0, 1, 2, 3), 10 ** 12)] * 4)
        self.assert_is(Side(region, [10 ** 14] * 4, (3, 0)).census, (10 ** 14,) * 4)

    def test_copies_its_list(self):
        census = [3, 0, 1]
        side = Side(REGION, census, (0,))
        census.append(4)
        census[0] = 9
        self.assert_is(side.census, (3, 0, 1))

    def test_leaves_its_arguments_alone(self):
        census, gates = [3, 0, 1], (2, 0)
        Side(REGION, census, gates)
        self.assert_is((census, gates), ([3, 0, 1], (2, 0)))

    def test_census(self):
        for census in ([], [1, 2], [1, 2, 3, 4]):
            self.assert_raises(BadSide, ("census",), Side, REGION, census, (0,))

    def test_heads(self):
        for census in ([-1, 0, 0], [0, 0, -1]):
            self.assert_raises(BadSide, ("heads",), Side, REGION, census, (0,))

    def test_gates(self):
        for gates in ((), (0, 1, 2), (3,), (-1,), (0, 3), (-1, 0), (1, 1), (0, 0)):
            self.assert_raises(BadSide, ("gates",), Side, REGION, [0, 0, 0], gates)
        self.assert_raises(BadSide, ("gates",), Side, Region.bare(1), [0], (0, 1))

    def test_order_of_faults(self):
        self.assert_raises(BadSide, ("census",), Side, REGION, [-1, 0], ())
        self.assert_raises(BadSide, ("census",), Side, REGION, [0, 0], (7,))
        self.assert_raises(BadSide, ("heads",), Side, REGION, [0, -1, 0], (1, 1))
