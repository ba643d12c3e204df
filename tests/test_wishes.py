"""Point [24]: wishes."""

from tests.checks import Checks
from tests.worlds import SMALL_WORLDS, WORLDS, placings_of, ways_from
from villagelines.region.book import Region
from villagelines.ways.judge import fault_of_paper
from villagelines.ways.papers import paper_of
from villagelines.ways.wishes import wish_for

EXAMPLE = Region(3, [((0, 1), 5), ((1, 2), 6)])
HEADS = [3, 2, 1]


class TestWishes(Checks):

    def test_first_placing_that_fulfils(self):
        self.assert_is(wish_for(EXAMPLE, HEADS, [0, 1, 2], [(0, 2)]), ("yes", [2, 1, 1]))
        self.assert_is(wish_for(EXAMPLE, HEADS, [0, 1, 2], [(2, 2), (0, 2)]), ("yes", [2, 1, 2]))
        self.assert_is(wish_for(EXAMPLE, [3, 2], [1, 1], [(1, 1)]), ("yes", [0, 1]))

    def test_fulfilled_by_the_placing_itself(self):
        self.assert_is(wish_for(EXAMPLE, HEADS, [2, 0, 1], [(0, 2), (1, 0), (2, 1)]), ("yes", [2, 0, 1]))

    def test_empty_wish(self):
        self.assert_is(wish_for(EXAMPLE, HEADS, [0, 1, 2], []), ("yes", [0, 0, 0]))
        self.assert_is(wish_for(EXAMPLE, HEADS, [2, 0, 1], []), ("yes", [2, 0, 1]))
        self.assert_is(wish_for(EXAMPLE, [], [], []), ("yes", []))
        self.assert_is(wish_for(Region.bare(1), [3, 4], [0, 0], []), ("yes", [0, 0]))

    def test_bars(self):
        found = wish_for(EXAMPLE, [3, 1], [0, 1], [(0, 1)])
        bars = [("bar", "start", [[0], [1], [2]], 0)] * 3
        self.assert_is(found, ("no", bars))

    def test_bars_in_the_order_of_the_placings(self):
        # Two heads of the first family bring each line to life, the others are barred one by one.
        region = Region(4, [((0, 1), 2), ((2, 3), 3)])
        found = wish_for(region, [2, 1], [0, 2], [(0, 2)])
        self.assert_is(found, ("no", [paper_of(region, [2, 1], [0, 2], [2, other]) for other in range(4)]))
        found = wish_for(region, [2, 1], [0, 2], [(1, 3)])
        self.assert_is([bar[1:] for bar in found[1]], [
            ("start", [[0, 1], [2], [3]], 1),
            ("start", [[0, 1], [2], [3]], 1),
            ("start", [[0, 1], [2], [3]], 0),
            ("start", [[0, 1], [2], [3]], 0),
        ])

    def test_bars_of_both_sides(self):
        found = wish_for(EXAMPLE, HEADS, [0, 1, 2], [(0, 2), (1, 0), (2, 1)])
        self.assert_is(found, ("no", [("bar", "goal", [[0], [1], [2]], 0)]))

    def test_no_lines_and_one_village(self):
        self.assert_is(wish_for(Region.bare(2), [3], [0], [(0, 0)]), ("yes", [0]))
        self.assert_is(wish_for(Region.bare(2), [3], [0], [(0, 1)]), ("no", [("bar", "start", [[0], [1]], 0)]))
        self.assert_is(wish_for(Region.bare(1), [3], [0], [(0, 0)]), ("yes", [0]))

    def test_worlds(self):
        for region, heads in WORLDS + SMALL_WORLDS[::7]:
            placings = placings_of(region, heads)
            for placing in placings[::4]:
                reached = ways_from(region, heads, placing)
                for goal in placings[::3]:
                    for wanted in (list(enumerate(goal))[:1], list(enumerate(goal))[:0:-1], list(enumerate(goal))):
                        able = [one for one in placings if all(one[family] == home for family, home in wanted)]
                        found = wish_for(region, heads, placing, wanted)
                        there = [one for one in able if tuple(one) in reached]
                        if there:
                            self.assert_is(found, ("yes", there[0]))
                        else:
                            self.assertEqual((found[0], len(found[1])), ("no", len(able)))
                            for one, bar in zip(able, found[1]):
                                self.assert_is(bar, paper_of(region, heads, placing, one))
                                self.assertIsNone(fault_of_paper(region, heads, placing, one, bar))

    def test_at_the_bounds(self):
        region = Region(5, [((0, 1, 2, 3, 4), 3 * 10 ** 12)] * 8)
        kind, bars = self.assert_short(wish_for, region, [10 ** 12, 10 ** 12, 10 ** 12 - 1], [0, 1, 2], [(0, 4)])
        self.assertEqual((kind, len(bars)), ("no", 25))
        found = self.assert_short(wish_for, region, [10 ** 12] * 3, [0, 1, 2], [(0, 4)])
        self.assert_is(found, ("yes", [4, 0, 0]))
        found = self.assert_short(wish_for, Region(2, [((0, 1), 6)] * 8), [1] * 6, [0, 1] * 3, [(0, 1), (5, 1)])
        self.assert_is(found, ("yes", [1, 0, 0, 0, 0, 1]))

    def test_clean(self):
        self.assert_clean(wish_for, EXAMPLE, HEADS, [0, 1, 2], [(0, 2)])
        self.assert_clean(wish_for, EXAMPLE, [3, 1], [0, 1], [(0, 1)])
        self.assert_clean(wish_for, EXAMPLE, HEADS, [0, 1, 2], [])
