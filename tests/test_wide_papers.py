"""Point [54], with points [7], [17], [18] and [21]: papers in wide regions."""

from itertools import product

from tests.checks import Checks
from tests.worlds import WORLDS, placings_of
from villagelines.lots.divisions import divisions_of, place_of, singles
from villagelines.needs.need import Need
from villagelines.needs.papers import fault_of_wide_paper, wide_paper
from villagelines.needs.wide import WideRegion, crowds_of, wide_lots, widened
from villagelines.region.book import Region
from villagelines.ways.judge import fault_of_paper
from villagelines.ways.papers import paper_of

BOTH = Need(2, [(2, 1)])
EITHER = Need(2, [(3, 0), (0, 2)])
EXAMPLE = WideRegion(3, 2, [((0, 1), BOTH), ((1, 2), EITHER)])
# One family is nobody. Together they keep the first line of the example running, and never the second.
FAMILIES = [(2, 0), (0, 1), (0, 0)]
WIDE_WORLDS = [
    (EXAMPLE, FAMILIES),
    (EXAMPLE, [*FAMILIES, (1, 0)]),
    (WideRegion(3, 2, [((0, 1, 2), EITHER), ((0, 2), BOTH), ((0, 2), BOTH)]), [(2, 1), (1, 1), (0, 0)]),
    (WideRegion(4, 1, [((0, 1), Need.of(1, 0, 2)), ((1, 2, 3), Need.of(1, 0, 3))]), [(2,), (1,), (0,)]),
    (WideRegion(2, 3, [((0, 1), Need(3, [(1, 0, 1), (0, 2, 0)]))]), [(1, 0, 0), (0, 0, 1), (0, 2, 0), (0, 0, 0)]),
    (WideRegion(3, 2, []), [(1, 1), (0, 0)]),
    (WideRegion(1, 2, []), [(1, 1), (0, 0)]),
    (EXAMPLE, []),
]


def runs(region, families, placing, line):
    """True if the people who live at the stops of the line meet its need."""
    stops, need = region.lines[line]
    crowds = [family for family, village in zip(families, placing) if village in stops]
    return need(tuple(sum(crowd[kind] for crowd in crowds) for kind in range(region.kinds)))


def reached_from(region, families, placing):
    """All placings that can come of this one, found by making all moves."""
    reached, waiting = {tuple(placing)}, [tuple(placing)]
    while waiting:
        now = waiting.pop()
        for family, line in product(range(len(now)), range(len(region.lines))):
            stops = region.lines[line][0]
            if now[family] in stops and runs(region, families, now, line):
                for stop in stops:
                    after = (*now[:family], stop, *now[family + 1:])
                    if after not in reached:
                        reached.add(after)
                        waiting.append(after)
    return reached


def bar_between(region, families, start, goal):
    """The bar that the document tells."""
    for side, placing in (("start", start), ("goal", goal)):
        lots = wide_lots(region, crowds_of(region, families, placing))
        parted = [family for family in range(len(families))
                  if place_of(lots, start[family]) != place_of(lots, goal[family])]
        if parted:
            return ("bar", side, lots, parted[0])
    return None


class TestPaper(Checks):

    def test_bars(self):
        self.assert_is(wide_paper(EXAMPLE, FAMILIES, [0, 0, 0], [0, 0, 2]), ("bar", "start", [[0, 1], [2]], 2))
        self.assert_is(wide_paper(EXAMPLE, FAMILIES, [0, 2, 0], [0, 1, 1]), ("bar", "start", singles(3), 1))
        # All may go to the last village, but the line along which they went stops behind them.
        region = WideRegion(3, 2, [((0, 1), Need(2, [(2, 0)])), ((1, 2), BOTH)])
        self.assert_is(wide_paper(region, FAMILIES, [0, 1, 0], [2, 0, 0]), ("bar", "goal", singles(3), 0))

    def test_start_equal_to_goal(self):
        self.assert_is(wide_paper(EXAMPLE, FAMILIES, [0, 1, 2], [0, 1, 2]), ("way", []))

    def test_nobody_moves_like_any_other(self):
        kind, moves = wide_paper(EXAMPLE, FAMILIES, [0, 1, 0], [0, 1, 1])
        self.assertEqual(kind, "way")
        self.assertIn(2, [move[0] for move in moves])

    def test_nobody_alone_keeps_no_line_running(self):
        self.assert_is(wide_paper(EXAMPLE, [(0, 0)], [0], [1]), ("bar", "start", singles(3), 0))

    def test_no_families_no_lines_one_village(self):
        self.assert_is(wide_paper(EXAMPLE, [], [], []), ("way", []))
        self.assert_is(wide_paper(WideRegion(2, 1, []), [(0,)], [0], [1]), ("bar", "start", [[0], [1]], 0))
        self.assert_is(wide_paper(WideRegion(1, 1, []), [(3,)], [0], [0]), ("way", []))

    def test_worlds(self):
        for region, families in WIDE_WORLDS:
            placings = placings_of(region, families)
            for start in placings[::2]:
                reached = reached_from(region, families, start)
                for goal in placings[::3] + [start]:
                    paper = wide_paper(region, families, start, goal)
                    self.assertIsNone(fault_of_wide_paper(region, families, start, goal, paper))
                    self.assertEqual(paper[0], "way" if tuple(goal) in reached else "bar")
                    if paper[0] == "bar":
                        self.assert_is(paper, bar_between(region, families, start, goal))
                    else:
                        most = len(families) * region.villages * (region.villages + 1)
                        self.assertLessEqual(len(paper[1]), 0 if start == goal else most)

    def test_widened_regions_have_the_same_papers(self):
        for region, heads in WORLDS:
            wide, families = widened(region), [(many,) for many in heads]
            placings = placings_of(region, heads)
            for start, goal in product(placings[::3], placings[::5]):
                paper = paper_of(region, heads, start, goal)
                wider = wide_paper(wide, families, start, goal)
                self.assertEqual(paper[0], wider[0])
                if paper[0] == "bar":
                    self.assert_is(wider, paper)
                self.assertIsNone(fault_of_wide_paper(wide, families, start, goal, paper))
                self.assertIsNone(fault_of_paper(region, heads, start, goal, wider))

    def test_at_the_bounds(self):
        rows = [(at, 39 - at, 1) for at in range(40)]
        region = WideRegion(5, 3, [((at, at + 1), Need(3, rows)) for at in range(4)] + [((0, 2, 3, 4), Need(3, rows))])
        families = [(10 ** 60 - 1, 0, 0), (0, 0, 1), (0, 0, 0), (0, 0, 0), (0, 10 ** 60 - 1, 0)]
        start, goal = [0, 1, 0, 1, 4], [4, 4, 3, 4, 4]
        paper = self.assert_short(wide_paper, region, families, start, goal)
        self.assertEqual(paper[0], "way")
        self.assertIsNone(fault_of_wide_paper(region, families, start, goal, paper))

    def test_clean(self):
        for goal in ([0, 0, 2], [1, 1, 1]):
            self.assert_clean(lambda *given: wide_paper(EXAMPLE, *given), FAMILIES, [0, 0, 0], goal)


class TestFault(Checks):

    def fault(self, start, goal, *paper):
        return fault_of_wide_paper(EXAMPLE, FAMILIES, start, goal, paper)

    def test_moves(self):
        start = [0, 0, 0]
        faults = {(3, 0, 1): "family", (-1, 0, 1): "family", (0, 2, 1): "line", (0, -1, 1): "line", (0, 1, 1): "home",
                  (0, 0, 2): "stop", (0, 0, 0): "same"}
        for move, why in faults.items():
            self.assert_is(self.fault(start, start, "way", [(1, 0, 1), move]), (1, why))
        self.assert_is(self.fault([0, 2, 0], start, "way", [(0, 0, 1)]), (0, "asleep"))
        self.assert_is(self.fault([0, 0, 2], start, "way", [(2, 1, 1)]), (0, "asleep"))

    def test_ways(self):
        start = [0, 0, 0]
        self.assert_is(self.fault(start, [0, 0, 1], "way", [(2, 0, 1)]), None)
        self.assert_is(self.fault(start, [0, 0, 1], "way", [(2, 0, 1), (0, 0, 1)]), (2, "end"))
        self.assert_is(self.fault(start, start, "way", []), None)
        self.assert_is(self.fault(start, [0, 0, 1], "way", []), (0, "end"))

    def test_bars(self):
        start, goal = [0, 0, 0], [0, 0, 2]
        self.assert_is(self.fault(start, goal, "bar", "start", [[0, 1], [2]], 2), None)
        self.assert_is(self.fault(start, goal, "bar", "goal", [[0, 1], [2]], 2), None)
        self.assert_is(self.fault(start, goal, "bar", "start", singles(3), 2), (0, "open"))
        self.assert_is(self.fault(start, goal, "bar", "start", [[0], [1, 2]], 2), (0, "open"))
        for division in ([[0, 1]], [[2], [0, 1]], [[1, 0], [2]], [[0, 1], [2], []], [[0, 1], [1, 2]], [[0, 1], [2, 3]]):
            self.assert_is(self.fault(start, goal, "bar", "start", division, 9), (0, "division"))
        for family in (-1, 3, 0, 1):
            self.assert_is(self.fault(start, goal, "bar", "start", [[0, 1], [2]], family), (family, "family"))

    def test_first_line_that_leaks_is_told(self):
        bar = ("bar", "start", singles(3), 1)
        self.assert_is(fault_of_wide_paper(EXAMPLE, [(3, 0), (0, 0)], [2, 0], [2, 1], bar), (1, "open"))

    def test_every_bar(self):
        for region, families in WIDE_WORLDS:
            placings = placings_of(region, families)
            bars = [("bar", *told) for told in product(("start", "goal"), list(divisions_of(region.villages)),
                                                       range(len(families)))]
            for start in placings[::7]:
                reached = reached_from(region, families, start)
                for goal in placings[::5]:
                    right = [bar for bar in bars if fault_of_wide_paper(region, families, start, goal, bar) is None]
                    self.assertIs(right == [], tuple(goal) in reached)

    def test_clean(self):
        for paper in (("way", [(2, 0, 1)]), ("way", [(9, 9, 9)]), ("bar", "start", [[0, 1], [2]], 2),
                      ("bar", "goal", [[2], [1, 0], []], 2)):
            self.assert_clean(lambda *given: fault_of_wide_paper(EXAMPLE, *given), FAMILIES, [0] * 3, [0, 0, 2], paper)
