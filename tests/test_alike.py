"""Points [40] and [41]: alike sides, the first difference, and the side that parts two."""

from itertools import product

from tests.checks import Checks
from tests.sides import ONE_GATE, TWO_GATES, outsides_to, response_by_definition
from villagelines.errors import BadSide
from villagelines.lots.closing import lots_of
from villagelines.region.book import Region
from villagelines.sides.alike import first_difference, parting_side
from villagelines.sides.glue import glued
from villagelines.sides.side import Side

PAIRS = list(product(ONE_GATE, repeat=2))[::5] + list(product(TWO_GATES, repeat=2))[::3]
ALONE = Side(Region.bare(1), [1], (0,))
APART = Side(Region.bare(2), [1, 2], (0, 1))


def difference_by_definition(one, other):
    """The first outside to which the two respond differently, found by looking at all."""
    most = max(one.region.greatest, other.region.greatest) + 2
    for outside in outsides_to(len(one.gates), most):
        if response_by_definition(one, outside) != response_by_definition(other, outside):
            return outside
    return None


def told_together(side, third):
    """For each two villages of the third side whether they are in one lot, glued behind the side."""
    region, census, places = glued(side, third)
    lots = lots_of(region, census)
    return [any(here in lot and there in lot for lot in lots) for here, there in product(places, repeat=2)]


def parts(third, one, other):
    """True if the third side tells the two apart."""
    return told_together(one, third) != told_together(other, third)


def parting_by_definition(one, other):
    """What the document says of the side that parts the two: its lines, villages, census and gates."""
    outside = difference_by_definition(one, other)
    here, there = response_by_definition(one, outside), response_by_definition(other, outside)
    heads = [told for _, told in outside]
    if len(one.gates) == 1:
        return 2, (((0, 1), max(here[0][1], there[0][1]) + heads[0] + 1),), (heads[0], 1), (0,)
    if len(outside) == 1:
        number = max(here[0][1], there[0][1]) + heads[0] + 1
        return 3, (((0, 1), 1), ((0, 2), number)), (heads[0], 0, 1), (0, 1)
    if len(here) != len(there):
        return 2, (), (heads[0], heads[1]), (0, 1)
    positions, own, others = [(here[at][0], here[at][1], there[at][1]) for at in range(len(here))
                              if here[at][1] != there[at][1]][0]
    number = max(own, others) + sum(heads[position] for position in positions) + 1
    return 3, (((positions[0], 2), number),), (heads[0], heads[1], 1), (0, 1)


class Alike(Checks):

    def assert_parts(self, one, other, wanted):
        """The parting side of the two is this one, and it does part them."""
        third = parting_side(one, other)
        self.assertIs(type(third), Side)
        self.assert_is((third.region.villages, third.region.lines, third.census, third.gates), wanted)
        self.assertTrue(parts(third, one, other))


class TestOneGate(Alike):

    def test_interface(self):
        one = Side(Region(2, [((0, 1), 4)]), [1, 2], (0,))
        third = parting_side(one, ALONE)
        self.assert_is((third.region.lines, third.census, third.gates), ((((0, 1), 5),), (1, 1), (0,)))
        self.assert_is(first_difference(one, ALONE), [((0,), 1)])

    def test_different_from_the_beginning(self):
        other = Side(Region.bare(2), [5, 3], (1,))
        self.assert_is(first_difference(ALONE, other), [((0,), 0)])
        self.assert_parts(ALONE, other, (2, (((0, 1), 4),), (0, 1), (0,)))
        self.assert_parts(other, ALONE, (2, (((0, 1), 4),), (0, 1), (0,)))

    def test_alike(self):
        one = Side(Region(2, [((0, 1), 4)]), [1, 2], (0,))
        more = Side(Region(4, [((1, 3), 4), ((0, 1, 3), 9), ((0, 2), 1)]), [0, 2, 0, 1], (3,))
        for other in (one, more):
            self.assert_is(first_difference(one, other), None)
            self.assert_is(parting_side(one, other), None)
            self.assert_is(parting_side(other, one), None)

    def test_people_who_cannot_be_reached(self):
        self.assert_is(first_difference(ALONE, Side(Region.bare(4), [9, 1, 8, 7], (1,))), None)

    def test_great_numbers(self):
        far = 10 ** 12
        one = Side(Region(4, [((0, 1), far), ((1, 2), far), ((2, 3), far)]), [0, 0, 0, 1], (0,))
        other = Side(Region(4, [((0, 1), far), ((1, 2), far), ((2, 3), far - 1)]), [0, 0, 0, 1], (0,))
        self.assert_is(self.assert_short(first_difference, one, one), None)
        # Who comes as far as the last line has enough heads for either number.
        self.assert_is(self.assert_short(first_difference, one, other), None)
        other = Side(Region(4, [((0, 1), far), ((1, 2), far), ((2, 3), far)]), [0, 0, 1, 1], (0,))
        self.assert_is(self.assert_short(first_difference, one, other), [((0,), far)])
        self.assert_parts(one, other, (2, (((0, 1), far + 3),), (far, 1), (0,)))

    def test_the_greatest_census(self):
        one = Side(Region(2, [((0, 1), 10 ** 12)]), [0, 10 ** 14], (0,))
        other = Side(Region(2, [((0, 1), 10 ** 12)]), [0, 0], (0,))
        self.assert_is(first_difference(one, other), [((0,), 0)])
        self.assert_parts(one, other, (2, (((0, 1), 10 ** 14 + 1),), (0, 1), (0,)))


class TestTwoGates(Alike):

    def test_one_response_joins_the_gates(self):
        other = Side(Region(2, [((0, 1), 5)]), [1, 2], (0, 1))
        self.assert_is(first_difference(APART, other), [((0,), 0), ((1,), 2)])
        self.assert_parts(APART, other, (2, (), (0, 2), (0, 1)))
        self.assert_parts(other, APART, (2, (), (0, 2), (0, 1)))

    def test_both_leave_the_gates_apart(self):
        other = Side(Region(3, [((1, 2), 4)]), [1, 2, 3], (0, 1))
        self.assert_is(first_difference(APART, other), [((0,), 0), ((1,), 0)])
        self.assert_parts(APART, other, (3, (((1, 2), 6),), (0, 0, 1), (0, 1)))
        other = Side(Region(3, [((1, 2), 6)]), [1, 2, 3], (0, 1))
        self.assert_is(first_difference(APART, other), [((0,), 0), ((1,), 1)])
        self.assert_parts(other, APART, (3, (((1, 2), 7),), (0, 1, 1), (0, 1)))

    def test_the_gate_of_the_first_pair(self):
        other = Side(Region(4, [((1, 2), 4), ((0, 3), 3)]), [1, 2, 3, 4], (0, 1))
        self.assert_parts(APART, other, (3, (((0, 2), 6),), (0, 0, 1), (0, 1)))
        turned = Side(other.region, other.census, (1, 0))
        self.assert_parts(Side(Region.bare(2), [1, 2], (1, 0)), turned, (3, (((0, 2), 6),), (0, 0, 1), (0, 1)))

    def test_both_join_the_gates(self):
        one = Side(Region(2, [((0, 1), 2)]), [1, 2], (0, 1))
        other = Side(Region(3, [((0, 1), 2), ((0, 2), 6)]), [1, 2, 3], (1, 0))
        self.assert_is(first_difference(one, other), [((0,), 0), ((1,), 0)])
        self.assert_parts(one, other, (3, (((0, 2), 7),), (0, 0, 1), (0, 1)))
        other = Side(Region(3, [((0, 1), 2), ((0, 1, 2), 6)]), [2, 1, 2], (1, 0))
        self.assert_is(first_difference(one, other), [((0,), 0), ((1,), 1)])
        self.assert_parts(one, other, (3, (((0, 2), 7),), (0, 1, 1), (0, 1)))

    def test_gates_joined_outside(self):
        region = Region(3, [((0, 1, 2), 5)])
        for gates in ((0, 1), (1, 0)):
            one, other = Side(region, [2, 1, 1], gates), Side(region.with_line((1, 2), 3), [2, 1, 1], gates)
            for left, right in ((one, other), (other, one)):
                self.assert_is(first_difference(left, right), [((0, 1), 0)])
                self.assert_parts(left, right, (3, (((0, 1), 1), ((0, 2), 5)), (0, 0, 1), (0, 1)))

    def test_gates_joined_outside_with_heads_there(self):
        one = Side(Region(4, [((0, 1, 2, 3), 4), ((1, 3), 5), ((0, 3), 2)]), [0, 1, 1, 0], (0, 1))
        other = Side(Region(4, [((0, 1), 3), ((0, 2, 3), 4), ((0, 3), 3), ((2, 3), 2)]), [0, 1, 0, 1], (0, 1))
        self.assert_is(first_difference(one, other), [((0, 1), 1)])
        self.assert_parts(one, other, (3, (((0, 1), 1), ((0, 2), 4)), (1, 0, 1), (0, 1)))
        self.assert_is(parting_by_definition(one, other), (3, (((0, 1), 1), ((0, 2), 4)), (1, 0, 1), (0, 1)))

    def test_alike(self):
        one = Side(Region(2, [((0, 1), 5)]), [1, 2], (0, 1))
        other = Side(Region(4, [((1, 3), 5), ((1, 3), 6), ((0, 2), 1)]), [4, 2, 5, 1], (3, 1))
        for left, right in ((one, other), (other, one)):
            self.assert_is(first_difference(left, right), None)
            self.assert_is(parting_side(left, right), None)

    def test_at_the_bounds(self):
        region = Region(4, [((0, 1), 6), ((1, 2), 6), ((2, 3), 6), ((0, 3), 6)])
        one, other = Side(region, [0, 0, 0, 0], (0, 2)), Side(region, [0, 0, 0, 0], (1, 3))
        self.assert_is(self.assert_short(first_difference, one, other), None)
        other = Side(region, [0, 0, 0, 10 ** 14], (1, 3))
        self.assert_is(first_difference(one, other), [((0,), 0), ((1,), 0)])
        self.assert_parts(one, other, (2, (), (0, 0), (0, 1)))


class TestEveryPair(Alike):

    def test_first_difference(self):
        for one, other in PAIRS:
            self.assert_is(first_difference(one, other), difference_by_definition(one, other))

    def test_parting_side(self):
        for one, other in PAIRS:
            if difference_by_definition(one, other) is None:
                self.assertIsNone(parting_side(one, other))
            else:
                self.assert_parts(one, other, parting_by_definition(one, other))

    def test_no_third_side_tells_alike_sides_apart(self):
        for one, other in PAIRS[::2]:
            if one is not other and first_difference(one, other) is None:
                thirds = ONE_GATE if len(one.gates) == 1 else TWO_GATES
                self.assertEqual([third for third in thirds if parts(third, one, other)], [])

    def test_other_numbers_of_gates(self):
        for call in (first_difference, parting_side):
            self.assert_raises(BadSide, ("gates",), call, ALONE, APART)
            self.assert_raises(BadSide, ("gates",), call, APART, ALONE)

    def test_clean(self):
        def told(one, other):
            third = parting_side(one, other)
            return third.region.lines, third.census, third.gates
        for one, other in ((ALONE, ONE_GATE[-1]), (APART, TWO_GATES[-1])):
            self.assert_clean(first_difference, one, other)
            self.assert_clean(told, one, other)
