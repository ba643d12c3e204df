"""Point [33]: needless lines, and regions without them."""

from tests.checks import Checks
from tests.narrow import EXAMPLE, FOUR, GREATEST, ONE, THREE, TWO, censuses_to, first_unanswered
from villagelines.books.parting import alike
from villagelines.books.thinning import needless, thinned
from villagelines.lots.closing import lots_of
from villagelines.region.book import Region


class TestThinning(Checks):

    def test_none_is_needless(self):
        self.assert_is(needless(EXAMPLE), [])
        self.assertEqual(thinned(EXAMPLE), EXAMPLE)

    def test_a_line_that_others_answer(self):
        region = Region(3, [((0, 1, 2), 6), ((0, 1), 2), ((1, 2), 2), ((0, 2), 3)])
        self.assert_is(needless(region), [0, 3])
        self.assertEqual(thinned(region), Region(3, [((0, 1), 2), ((1, 2), 2)]))

    def test_each_is_looked_at_alone(self):
        region = Region(2, [((0, 1), 3), ((0, 1), 3), ((0, 1), 5)])
        self.assert_is(needless(region), [0, 1, 2])
        self.assertEqual(thinned(region), Region(2, [((0, 1), 3)]))

    def test_from_the_last_to_the_first(self):
        region = Region(3, [((0, 1), 1), ((1, 2), 1), ((0, 2), 1)])
        self.assert_is(needless(region), [0, 1, 2])
        self.assertEqual(thinned(region), Region(3, [((0, 1), 1), ((1, 2), 1)]))
        turned = Region(3, [((0, 2), 1), ((1, 2), 1), ((0, 1), 1)])
        self.assertEqual(thinned(turned), Region(3, [((0, 2), 1), ((1, 2), 1)]))

    def test_no_lines_and_one_village(self):
        for region in (Region.bare(3), *ONE):
            self.assert_is(needless(region), [])
            self.assertEqual(thinned(region), region)

    def test_every_region(self):
        for region in THREE + TWO + FOUR:
            lines = [at for at, line in enumerate(region) if first_unanswered(region.without(at), *line) is None]
            self.assert_is(needless(region), lines)
            thin = thinned(region)
            self.assertIsInstance(thin, Region)
            self.assertIs(alike(thin, region), True)
            self.assert_is(needless(thin), [])
            for census in censuses_to(region.villages, region.greatest)[::5]:
                self.assert_is(lots_of(thin, census), lots_of(region, census))

    def test_at_the_bounds(self):
        for region in GREATEST:
            self.assert_short(needless, region)
            self.assertIs(alike(self.assert_short(thinned, region), region), True)

    def test_clean(self):
        region = Region(3, [((0, 1, 2), 6), ((0, 1), 2), ((1, 2), 2)])
        self.assert_clean(needless, region)
        self.assert_clean(lambda given: thinned(given).lines, region)
