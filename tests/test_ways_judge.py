"""Points [17] and [21]: papers, and their faults."""

from itertools import product

from tests.checks import Checks
from tests.worlds import WORLDS, placings_of, ways_from
from villagelines.lots.divisions import divisions_of
from villagelines.region.book import Region
from villagelines.ways.judge import fault_of_paper

EXAMPLE = Region(3, [((0, 1), 5), ((1, 2), 6)])
HEADS = [3, 2, 1]
# The lots of the start: one block. The lots of the goal: three.
START, GOAL = [0, 1, 2], [2, 0, 1]
GOOD_BAR = ("bar", "goal", [[0], [1], [2]], 0)


class TestWays(Checks):

    def fault(self, goal, moves, start=START):
        return fault_of_paper(EXAMPLE, HEADS, list(start), list(goal), ("way", moves))

    def test_none(self):
        self.assert_is(self.fault([1, 1, 1], [(0, 0, 1), (2, 1, 1)]), None)

    def test_empty_row(self):
        self.assert_is(self.fault(START, []), None)
        self.assert_is(self.fault([1, 1, 1], []), (0, "end"))
        self.assert_is(fault_of_paper(EXAMPLE, [], [], [], ("way", [])), None)

    def test_length_is_not_looked_at(self):
        self.assert_is(self.fault(START, [(0, 0, 1), (0, 0, 0)] * 200), None)

    def test_moves_that_cannot_be_made(self):
        faults = {(3, 0, 1): "family", (-1, 0, 1): "family", (0, 2, 1): "line", (0, -1, 1): "line",
                  (2, 0, 1): "home", (0, 0, 2): "stop", (0, 0, -1): "stop", (0, 0, 1): "same"}
        for move, why in faults.items():
            self.assert_is(self.fault([1, 1, 1], [(0, 0, 1), move, (9, 9, 9)]), (1, why))
        self.assert_is(self.fault([1, 1, 1], [(2, 1, 1)]), (0, "asleep"))

    def test_fault_of_a_move_goes_before_the_end(self):
        self.assert_is(self.fault([1, 1, 2], [(0, 0, 1), (0, 0, 1)]), (1, "same"))

    def test_end(self):
        self.assert_is(self.fault([1, 1, 1], [(0, 0, 1)]), (1, "end"))
        self.assert_is(self.fault(START, [(0, 0, 1), (2, 1, 1)]), (2, "end"))

    def test_no_families_and_one_village(self):
        self.assert_is(fault_of_paper(EXAMPLE, [], [], [], ("way", [(0, 0, 0)])), (0, "family"))
        self.assert_is(fault_of_paper(Region.bare(1), [1], [0], [0], ("way", [])), None)
        self.assert_is(fault_of_paper(Region.bare(1), [1], [0], [0], ("way", [(0, 0, 0)])), (0, "line"))

    def test_clean(self):
        for moves in ([(0, 0, 1), (2, 1, 1)], [(0, 0, 0)], []):
            self.assert_clean(fault_of_paper, EXAMPLE, HEADS, [0, 1, 2], [1, 1, 1], ("way", moves))


class TestBars(Checks):

    def fault(self, side, division, family, start=START, goal=GOAL):
        paper = ("bar", side, division, family)
        return fault_of_paper(EXAMPLE, HEADS, list(start), list(goal), paper)

    def test_none(self):
        self.assert_is(fault_of_paper(EXAMPLE, HEADS, START, GOAL, GOOD_BAR), None)
        self.assert_is(self.fault("goal", [[0], [1], [2]], 2), None)
        self.assert_is(self.fault("start", [[0], [1], [2]], 0, GOAL, START), None)

    def test_any_shut_division_will_do(self):
        region = Region(4, [((0, 1), 5), ((2, 3), 7)])
        for side in ("start", "goal"):
            for division in ([[0, 1], [2, 3]], [[0, 1], [2], [3]], [[0], [1], [2, 3]], [[0], [1], [2], [3]]):
                bar = (side, division, 0)
                self.assert_is(fault_of_paper(region, [3, 1], [0, 1], [2, 1], ("bar", *bar)), None)

    def test_division(self):
        wrong = [[], [[]], [[0, 1]], [[0], [1], [2], []], [[1], [0], [2]], [[1, 0], [2]], [[0, 1], [1, 2]],
                 [[0, 1], [2, 3]], [[-1, 0], [1], [2]], [[0, 0], [1], [2]], [[0], [2]], [[], [0], [1], [2]]]
        for division in wrong:
            with self.subTest(division):
                self.assert_is(self.fault("goal", division, 0), (0, "division"))

    def test_open(self):
        self.assert_is(self.fault("start", [[0], [1], [2]], 0), (0, "open"))
        self.assert_is(self.fault("start", [[0, 1], [2]], 0), (1, "open"))

    def test_first_line_that_leaks_is_told(self):
        region = Region(3, [((0, 1), 9), ((1, 2), 1), ((0, 2), 1)])
        bar = ("bar", "start", [[0], [1], [2]], 0)
        self.assert_is(fault_of_paper(region, [1, 1, 1], [0, 1, 2], [1, 1, 2], bar), (1, "open"))

    def test_the_told_side_is_looked_at(self):
        self.assert_is(self.fault("goal", [[0], [1], [2]], 0, GOAL, START), (0, "open"))
        self.assert_is(self.fault("start", [[0], [1], [2]], 0), (0, "open"))
        self.assert_is(self.fault("goal", [[0], [1], [2]], 0), None)

    def test_family(self):
        for family in (-1, -3, 3, 10 ** 9):
            self.assert_is(self.fault("goal", [[0], [1], [2]], family), (family, "family"))

    def test_family_in_the_same_block(self):
        bar = ("bar", "start", [[0, 2], [1]], 0)
        self.assert_is(fault_of_paper(Region.bare(3), [3, 1], [0, 1], [2, 0], bar), (0, "family"))
        self.assert_is(self.fault("start", [[0, 1, 2]], 1), (1, "family"))
        self.assert_is(self.fault("goal", [[0], [1], [2]], 1, [2, 0, 1], [2, 0, 1]), (1, "family"))

    def test_order_of_faults(self):
        self.assert_is(self.fault("start", [[1], [0], [2]], 9), (0, "division"))
        self.assert_is(self.fault("start", [[0], [1], [2]], 9), (0, "open"))

    def test_no_families_and_one_village(self):
        for side in ("start", "goal"):
            self.assert_is(fault_of_paper(EXAMPLE, [], [], [], ("bar", side, [[0, 1, 2]], 0)), (0, "family"))
            self.assert_is(fault_of_paper(Region.bare(1), [1], [0], [0], ("bar", side, [[0]], 0)), (0, "family"))

    def test_no_lines(self):
        bar = ("bar", "start", [[0], [1]], 0)
        self.assert_is(fault_of_paper(Region.bare(2), [10 ** 12], [0], [1], bar), None)

    def test_clean(self):
        for division in ([[0], [1], [2]], [[2], [1, 0], []], [[0, 1, 2]]):
            for side in ("start", "goal"):
                paper = ("bar", side, division, 0)
                self.assert_clean(fault_of_paper, EXAMPLE, HEADS, [0, 1, 2], [2, 0, 1], paper)


def bars_of(region, families):
    """All bars that can be told in the region."""
    divisions = list(divisions_of(region.villages))
    return [("bar", *told) for told in product(("start", "goal"), divisions, range(families))]


class TestEveryPaper(Checks):

    def test_a_paper_of_exactly_one_form(self):
        for region, heads in WORLDS:
            bars = bars_of(region, len(heads))
            placings = placings_of(region, heads)
            for start in placings[::2]:
                ways = ways_from(region, heads, start)
                for goal in placings[::3]:
                    right = [bar for bar in bars if fault_of_paper(region, heads, start, goal, bar) is None]
                    self.assertIs(right == [], tuple(goal) in ways)
                    if tuple(goal) in ways:
                        way = ("way", ways[tuple(goal)])
                        self.assertIsNone(fault_of_paper(region, heads, start, goal, way))
