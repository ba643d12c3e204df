"""Point [30], with points [17] and [18]: the discount of two placings."""

from tests.checks import Checks
from tests.worlds import SMALL_WORLDS, WORLDS, placings_of, ways_from
from villagelines.least.discount import discount_for
from villagelines.least.slack import raised
from villagelines.region.book import Region
from villagelines.region.walks import walk
from villagelines.ways.judge import fault_of_paper
from villagelines.ways.papers import paper_of

EXAMPLE = Region(3, [((0, 1), 5), ((1, 2), 6)])
HEADS = [3, 2, 1]


class TestDiscount(Checks):

    def assert_discount(self, region, heads, start, goal, wanted):
        """The answer tells this discount, a way with it, and the bar with one less; None is never."""
        found = discount_for(region, heads, start, goal)
        self.assertIs(type(found), tuple)
        if wanted is None:
            self.assert_is(found, ("never", paper_of(raised(region, -region.greatest), heads, start, goal)))
            return
        kind, least, way, bar = found
        self.assert_is((kind, least, type(way)), ("discount", wanted, list))
        self.assert_is(walk(raised(region, -least), heads, start, way), goal)
        self.assertLessEqual(len(way), len(heads) * region.villages * (region.villages + 1) if start != goal else 0)
        if wanted == 0:
            self.assertIsNone(bar)
        else:
            self.assert_is(bar, paper_of(raised(region, 1 - least), heads, start, goal))
            self.assertIsNone(fault_of_paper(raised(region, 1 - least), heads, start, goal, bar))

    def test_interface(self):
        found = discount_for(Region(3, [((0, 1), 5), ((1, 2), 6)]), [3, 2, 1], [0, 1, 2], [2, 0, 1])
        self.assert_is((found[1], found[3]), (2, ('bar', 'goal', [[0], [1], [2]], 0)))
        self.assert_discount(EXAMPLE, HEADS, [0, 1, 2], [2, 0, 1], 2)

    def test_nothing_is_needed(self):
        self.assert_discount(EXAMPLE, HEADS, [0, 1, 2], [2, 2, 2], 0)
        self.assert_discount(EXAMPLE, HEADS, [0, 1, 2], [1, 1, 2], 0)

    def test_start_equal_to_goal(self):
        self.assert_is(discount_for(EXAMPLE, HEADS, [2, 0, 1], [2, 0, 1]), ("discount", 0, [], None))
        self.assert_is(discount_for(EXAMPLE, [], [], []), ("discount", 0, [], None))
        self.assert_is(discount_for(Region.bare(1), [4], [0], [0]), ("discount", 0, [], None))

    def test_all_numbers_one(self):
        self.assert_discount(Region(2, [((0, 1), 5)]), [1], [0], [1], 4)
        self.assert_discount(EXAMPLE, [1], [0], [2], 5)

    def test_never(self):
        self.assert_is(discount_for(Region.bare(2), [4], [0], [1]), ("never", ("bar", "start", [[0], [1]], 0)))
        region = Region(3, [((0, 1), 5)])
        self.assert_is(discount_for(region, [4, 1], [0, 1], [1, 2]), ("never", ("bar", "start", [[0, 1], [2]], 1)))

    def test_equal_lines(self):
        self.assert_discount(Region(2, [((0, 1), 5), ((0, 1), 5)]), [2, 1], [0, 1], [1, 0], 2)

    def test_worlds(self):
        for region, heads in WORLDS + SMALL_WORLDS[::11]:
            placings = placings_of(region, heads)
            lowered = [raised(region, -by) for by in range(region.greatest + 1)]
            for start in placings[::5]:
                reached = [ways_from(low, heads, start) for low in lowered]
                for goal in placings[::4]:
                    enough = [by for by, ways in enumerate(reached) if tuple(goal) in ways]
                    self.assert_discount(region, heads, start, goal, enough[0] if enough else None)

    def test_great_numbers(self):
        region = Region(7, [((at, at + 1), 10 ** 12 - at) for at in range(6)] + [((0, 3), 10 ** 12)] * 2)
        self.assert_short(self.assert_discount, region, [1] * 6, [0] * 6, [6] * 6, 10 ** 12 - 6)
        self.assert_short(self.assert_discount, region, [10 ** 12] * 6, [0] * 6, [6] * 6, 0)
        self.assert_short(self.assert_discount, Region(2, [((0, 1), 10 ** 12)]), [1], [0], [1], 10 ** 12 - 1)

    def test_clean(self):
        self.assert_clean(discount_for, EXAMPLE, HEADS, [0, 1, 2], [2, 0, 1])
        self.assert_clean(discount_for, EXAMPLE, HEADS, [0, 1, 2], [2, 2, 2])
        self.assert_clean(discount_for, Region.bare(2), [3, 2], [0, 1], [1, 1])
