"""Point [25]: heights, fewest moves and shortest ways."""

from tests.checks import Checks
from tests.worlds import SMALL_WORLDS, WORLDS, placings_of
from villagelines.region.book import Region
from villagelines.region.moves import moved, moves_from
from villagelines.region.walks import walk
from villagelines.ways.heights import fewest_moves, heights_of, shortest_way

EXAMPLE = Region(3, [((0, 1), 5), ((1, 2), 6)])
HEADS = [3, 2, 1]


def least_moves(region, heads, start):
    """The least number of moves to each placing of the class: one more than to its nearest neighbour."""
    least, before = {tuple(start): 0}, {}
    while least != before:
        before = dict(least)
        for one in before:
            for move in moves_from(region, heads, one):
                other = tuple(moved(region, heads, one, move))
                least[other] = min(least.get(other, least[one] + 1), least[one] + 1)
    return least


class TestHeights(Checks):

    def test_example(self):
        self.assert_is(heights_of(EXAMPLE, [3, 2], [0, 1]),
                       [((0, 0), 1), ((0, 1), 0), ((1, 0), 2), ((1, 1), 1)])

    def test_no_move_can_be_made(self):
        self.assert_is(heights_of(EXAMPLE, HEADS, [2, 0, 1]), [((2, 0, 1), 0)])
        self.assert_is(heights_of(Region.bare(3), [4], [2]), [((2,), 0)])
        self.assert_is(heights_of(Region.bare(1), [4, 5], [0, 0]), [((0, 0), 0)])

    def test_no_families(self):
        self.assert_is(heights_of(EXAMPLE, [], []), [((), 0)])

    def test_a_line_to_a_farther_village(self):
        region = Region(3, [((0, 1), 1), ((1, 2), 1), ((0, 1, 2), 2)])
        self.assert_is(heights_of(region, [1], [0]), [((0,), 0), ((1,), 1), ((2,), 2)])
        self.assert_is(heights_of(region, [2], [0]), [((0,), 0), ((1,), 1), ((2,), 1)])

    def test_worlds(self):
        for region, heads in WORLDS + SMALL_WORLDS[::4]:
            for start in placings_of(region, heads)[::3]:
                least = least_moves(region, heads, start)
                self.assert_is(heights_of(region, heads, start), sorted(least.items()))

    def test_at_the_bounds(self):
        many = Region(5, [((0, 1, 2, 3, 4), 3 * 10 ** 12)] * 8)
        found = self.assert_short(heights_of, many, [10 ** 12] * 3, [0, 1, 2])
        self.assertEqual((len(found), max(height for _, height in found)), (125, 3))
        found = self.assert_short(heights_of, Region(2, [((0, 1), 1)] * 8), [1] * 6, [0] * 6)
        self.assertEqual((len(found), max(height for _, height in found)), (64, 6))

    def test_clean(self):
        self.assert_clean(heights_of, EXAMPLE, HEADS, [0, 1, 2])


class TestShortest(Checks):

    def test_start_equal_to_goal(self):
        self.assert_is(fewest_moves(EXAMPLE, HEADS, [2, 0, 1], [2, 0, 1]), 0)
        self.assert_is(shortest_way(EXAMPLE, HEADS, [2, 0, 1], [2, 0, 1]), [])
        self.assert_is(shortest_way(EXAMPLE, [], [], []), [])

    def test_not_in_the_class(self):
        self.assert_is(fewest_moves(EXAMPLE, HEADS, [0, 1, 2], [2, 0, 1]), None)
        self.assert_is(shortest_way(EXAMPLE, HEADS, [0, 1, 2], [2, 0, 1]), None)
        self.assert_is(shortest_way(Region.bare(2), [3], [0], [1]), None)

    def test_example(self):
        self.assert_is(shortest_way(EXAMPLE, [3, 2], [0, 1], [0, 0]), [(1, 0, 0)])
        self.assert_is(fewest_moves(EXAMPLE, [3, 2], [0, 1], [1, 0]), 2)

    def test_worlds(self):
        for region, heads in WORLDS + SMALL_WORLDS[::5]:
            placings = placings_of(region, heads)
            for start in placings[::4]:
                least = least_moves(region, heads, start)
                for goal in placings[::3]:
                    fewest = least.get(tuple(goal))
                    way = shortest_way(region, heads, start, goal)
                    self.assert_is(fewest_moves(region, heads, start, goal), fewest)
                    self.assert_is(None if way is None else len(way), fewest)
                    if way is not None:
                        self.assertEqual({type(move) for move in way} - {tuple}, set())
                        self.assert_is(walk(region, heads, start, way), goal)

    def test_at_the_bounds(self):
        region = Region(3, [((0, 1), 4 * 10 ** 12)] * 4 + [((1, 2), 4 * 10 ** 12)] * 4)
        self.assert_is(self.assert_short(fewest_moves, region, [10 ** 12] * 4, [0] * 4, [2] * 4), 8)
        self.assert_is(len(self.assert_short(shortest_way, region, [10 ** 12] * 4, [0] * 4, [2] * 4)), 8)

    def test_clean(self):
        self.assert_clean(shortest_way, EXAMPLE, HEADS, [0, 1, 2], [2, 2, 2])
        self.assert_clean(shortest_way, EXAMPLE, HEADS, [0, 1, 2], [0, 1, 2])
        self.assert_clean(fewest_moves, EXAMPLE, HEADS, [0, 1, 2], [2, 2, 2])
