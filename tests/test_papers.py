"""Points [17] and [18]: a way from start to goal, or the bar between them."""

from tests.checks import Checks
from tests.worlds import SMALL_WORLDS, WORLDS, placings_of, ways_from
from villagelines.lots.closing import lots_of
from villagelines.lots.divisions import place_of
from villagelines.region.book import Region
from villagelines.region.census import census_of
from villagelines.region.walks import walk
from villagelines.ways.judge import fault_of_paper
from villagelines.ways.papers import paper_of

EXAMPLE = Region(3, [((0, 1), 5), ((1, 2), 6)])
HEADS = [3, 2, 1]


def bar_between(region, heads, start, goal):
    """The bar that the document tells, or None if no family is in different blocks."""
    for side, placing in (("start", start), ("goal", goal)):
        lots = lots_of(region, census_of(region, heads, placing))
        parted = [family for family in range(len(heads))
                  if place_of(lots, start[family]) != place_of(lots, goal[family])]
        if parted:
            return ("bar", side, lots, parted[0])
    return None


class Papers(Checks):

    def assert_way(self, region, heads, start, goal):
        """The paper is a way from start to goal that is short enough."""
        paper = paper_of(region, heads, start, goal)
        self.assertIs(type(paper), tuple)
        kind, moves = paper
        self.assertEqual((kind, type(moves), {type(move) for move in moves} - {tuple}), ("way", list, set()))
        self.assert_is(walk(region, heads, start, moves), goal)
        self.assertLessEqual(len(moves), len(heads) * region.villages * (region.villages + 1))


class TestWays(Papers):

    def test_example(self):
        self.assert_way(EXAMPLE, HEADS, [0, 1, 2], [2, 2, 2])
        self.assert_way(EXAMPLE, HEADS, [2, 2, 2], [0, 1, 2])
        self.assert_way(EXAMPLE, HEADS, [0, 1, 2], [1, 1, 0])

    def test_start_equal_to_goal(self):
        for placing in ([0, 1, 2], [2, 0, 1], [1, 1, 1]):
            self.assert_is(paper_of(EXAMPLE, HEADS, placing, list(placing)), ("way", []))

    def test_no_families_no_lines_one_village(self):
        self.assert_is(paper_of(EXAMPLE, [], [], []), ("way", []))
        self.assert_is(paper_of(Region.bare(3), [4, 5], [2, 1], [2, 1]), ("way", []))
        self.assert_is(paper_of(Region.bare(1), [4, 5], [0, 0], [0, 0]), ("way", []))

    def test_several_lots(self):
        region = Region(5, [((0, 1), 2), ((2, 3, 4), 3)])
        self.assert_way(region, [1, 1, 2, 1], [0, 1, 3, 4], [1, 1, 2, 2])

    def test_equal_lines(self):
        self.assert_way(Region(2, [((0, 1), 3), ((0, 1), 3)]), [2, 1], [0, 1], [1, 0])

    def test_great_numbers(self):
        region = Region(7, [((at, at + 1), 10 ** 12 * (at + 1)) for at in range(6)])
        start, goal = [0, 1, 2, 3, 4, 5], [6, 5, 4, 3, 2, 0]
        self.assert_short(self.assert_way, region, [10 ** 12] * 6, start, goal)
        self.assert_short(self.assert_way, region, [10 ** 12] * 6, start, [6] * 6)


class TestBars(Checks):

    def test_interface(self):
        paper = paper_of(Region(3, [((0, 1), 5), ((1, 2), 6)]), [3, 2, 1], [0, 1, 2], [2, 0, 1])
        self.assert_is(paper, ('bar', 'goal', [[0], [1], [2]], 0))

    def test_start_goes_before_goal(self):
        paper = paper_of(EXAMPLE, HEADS, [2, 0, 1], [0, 1, 2])
        self.assert_is(paper, ("bar", "start", [[0], [1], [2]], 0))
        paper = paper_of(EXAMPLE, [1, 1], [0, 1], [1, 0])
        self.assert_is(paper, ("bar", "start", [[0], [1], [2]], 0))

    def test_first_family_that_is_parted(self):
        self.assert_is(paper_of(Region.bare(2), [1, 1, 1], [0, 0, 1], [0, 1, 0]), ("bar", "start", [[0], [1]], 1))
        region = Region(4, [((0, 1), 2), ((2, 3), 9)])
        self.assert_is(paper_of(region, [1, 1, 1], [0, 1, 2], [1, 0, 3]), ("bar", "start", [[0, 1], [2], [3]], 2))

    def test_first_family_of_the_goal(self):
        # All families can leave the start, but the lots of the goal are finer.
        region = Region(3, [((0, 1), 2), ((1, 2), 3)])
        self.assert_is(paper_of(region, [1, 1, 1], [0, 0, 1], [0, 2, 2]), ("bar", "goal", [[0], [1], [2]], 1))

    def test_great_numbers(self):
        region = Region(7, [((0, 1, 2, 3, 4), 10 ** 12), ((2, 3, 4, 5, 6), 10 ** 12)])
        paper = paper_of(region, [10 ** 12 - 1], [0], [6])
        self.assert_is(paper, ("bar", "start", [[village] for village in range(7)], 0))
        self.assertEqual(paper_of(region, [10 ** 12], [0], [6])[0], "way")

    def test_clean(self):
        self.assert_clean(paper_of, EXAMPLE, HEADS, [0, 1, 2], [2, 0, 1])
        self.assert_clean(paper_of, EXAMPLE, HEADS, [2, 0, 1], [0, 1, 2])
        self.assert_clean(paper_of, EXAMPLE, HEADS, [0, 1, 2], [2, 2, 2])
        self.assert_clean(paper_of, EXAMPLE, HEADS, [0, 1, 2], [0, 1, 2])


class TestEveryPaper(Papers):

    def test_worlds(self):
        for region, heads in WORLDS + SMALL_WORLDS[::5]:
            placings = placings_of(region, heads)
            for start in placings[::2]:
                reached = ways_from(region, heads, start)
                for goal in placings[::3] + [start]:
                    paper = paper_of(region, heads, start, goal)
                    self.assertEqual(paper[0], "way" if tuple(goal) in reached else "bar")
                    self.assertIsNone(fault_of_paper(region, heads, start, goal, paper))
                    if paper[0] == "bar":
                        self.assert_is(paper, bar_between(region, heads, start, goal))
                    else:
                        self.assert_way(region, heads, start, goal)
