"""Point [38]: the response of a side to an outside."""

from tests.checks import Checks
from tests.sides import LARGE, ONE_GATE, TWO_GATES, blocks_under, outsides_to, response_by_definition
from villagelines.lots.closing import lots_of
from villagelines.region.book import Region
from villagelines.sides.response import lots_under, nothing, response
from villagelines.sides.side import Side

LINE = Region(3, [((0, 1), 4), ((1, 2), 6)])


class TestNothing(Checks):

    def test_one_gate_and_two(self):
        self.assert_is(nothing(1), [((0,), 0)])
        self.assert_is(nothing(2), [((0,), 0), ((1,), 0)])

    def test_the_lots_are_those_of_the_census(self):
        for side in ONE_GATE + TWO_GATES:
            self.assert_is(lots_under(side, nothing(len(side.gates))), lots_of(side.region, list(side.census)))

    def test_clean(self):
        self.assert_clean(nothing, 1)
        self.assert_clean(nothing, 2)


class TestResponse(Checks):

    def test_interface(self):
        side = Side(Region(2, [((0, 1), 4)]), [1, 2], (0,))
        self.assert_is(response(side, [((0,), 1)]), [((0,), 3)])

    def test_own_heads_alone(self):
        side = Side(Region(2, [((0, 1), 4)]), [1, 2], (0,))
        self.assert_is(response(side, nothing(1)), [((0,), 1)])
        self.assert_is(response(side, [((0,), 10 ** 15)]), [((0,), 3)])
        self.assert_is(lots_under(side, [((0,), 0)]), [[0], [1]])
        self.assert_is(lots_under(side, [((0,), 1)]), [[0, 1]])

    def test_two_gates(self):
        side = Side(LINE, [1, 2, 3], (0, 2))
        self.assert_is(response(side, nothing(2)), [((0,), 1), ((1,), 3)])
        self.assert_is(response(side, [((0,), 1), ((1,), 0)]), [((0, 1), 6)])
        self.assert_is(response(side, [((0,), 0), ((1,), 1)]), [((0, 1), 6)])
        side = Side(LINE, [1, 2, 1], (0, 2))
        self.assert_is(response(side, [((0,), 1), ((1,), 0)]), [((0,), 3), ((1,), 1)])

    def test_gates_in_any_order(self):
        side = Side(LINE, [1, 2, 1], (2, 0))
        self.assert_is(response(side, [((0,), 0), ((1,), 1)]), [((0,), 1), ((1,), 3)])
        self.assert_is(response(side, [((0,), 3), ((1,), 0)]), [((0, 1), 4)])

    def test_gates_that_are_one_lot_outside(self):
        side = Side(Region.bare(3), [1, 2, 4], (2, 0))
        self.assert_is(lots_under(side, [((0, 1), 5)]), [[0, 2], [1]])
        self.assert_is(response(side, [((0, 1), 5)]), [((0, 1), 5)])

    def test_heads_of_joined_gates_count_once(self):
        side = Side(Region(3, [((0, 1, 2), 10)]), [1, 0, 2], (0, 2))
        self.assert_is(response(side, [((0, 1), 6)]), [((0, 1), 3)])
        self.assert_is(lots_under(side, [((0, 1), 6)]), [[0, 2], [1]])
        self.assert_is(lots_under(side, [((0, 1), 7)]), [[0, 1, 2]])

    def test_heads_of_joined_gates_count_at_both(self):
        for gates in ((0, 2), (2, 0)):
            side = Side(Region(4, [((0, 1), 5), ((2, 3), 6)]), [0, 0, 0, 0], gates)
            self.assert_is(lots_under(side, [((0, 1), 4)]), [[0, 2], [1], [3]])
            self.assert_is(lots_under(side, [((0, 1), 5)]), [[0, 1, 2], [3]])
            self.assert_is(lots_under(side, [((0, 1), 6)]), [[0, 1, 2, 3]])

    def test_heads_of_both_pairs_in_one_lot(self):
        side = Side(Region(3, [((0, 1), 1), ((1, 2), 9)]), [0, 0, 0], (0, 1))
        self.assert_is(lots_under(side, [((0,), 4), ((1,), 4)]), [[0, 1], [2]])
        self.assert_is(lots_under(side, [((0,), 4), ((1,), 5)]), [[0, 1, 2]])

    def test_lots_without_gates_are_not_told(self):
        side = Side(Region(4, [((2, 3), 2)]), [5, 6, 1, 1], (1,))
        self.assert_is(lots_under(side, nothing(1)), [[0], [1], [2, 3]])
        self.assert_is(response(side, nothing(1)), [((0,), 6)])

    def test_one_village(self):
        side = Side(Region.bare(1), [7], (0,))
        self.assert_is(lots_under(side, [((0,), 3)]), [[0]])
        self.assert_is(response(side, [((0,), 3)]), [((0,), 7)])

    def test_every_side_and_outside(self):
        for side in ONE_GATE + TWO_GATES + list(LARGE):
            for outside in outsides_to(len(side.gates), 5):
                self.assert_is(response(side, outside), response_by_definition(side, outside))
                self.assertEqual(lots_under(side, outside), sorted(map(sorted, blocks_under(side, outside))))

    def test_at_the_bounds(self):
        region = Region(4, [((0, 1), 10 ** 12), ((1, 2), 10 ** 12), ((2, 3), 10 ** 12), ((0, 3), 10 ** 12)])
        side = Side(region, [10 ** 14, 0, 0, 0], (3, 1))
        self.assert_is(self.assert_short(response, side, [((0,), 10 ** 15), ((1,), 10 ** 15)]), [((0, 1), 10 ** 14)])
        side = Side(Region(2, [((0, 1), 10 ** 12)]), [0, 1], (0,))
        self.assert_is(response(side, [((0,), 10 ** 12 - 2)]), [((0,), 0)])
        self.assert_is(response(side, [((0,), 10 ** 12 - 1)]), [((0,), 1)])

    def test_clean(self):
        for outside in ([((0,), 2), ((1,), 3)], [((0, 1), 3)]):
            self.assert_clean(response, LARGE[0], outside)
            self.assert_clean(lots_under, LARGE[0], outside)
        self.assert_clean(lots_under, Side(Region.bare(2), [0, 0], (0,)), [((0,), 2)])
