"""Point [31]: which lines a region answers."""

from tests.checks import Checks
from tests.narrow import EXAMPLE, FOUR, GREATEST, THREE, TWO, censuses_to, first_unanswered, is_together, stops_of
from villagelines.books.answers import answers, unanswered
from villagelines.region.book import Region


class TestAnswers(Checks):

    def test_interface(self):
        self.assert_is(unanswered(Region(3, [((0, 1), 5), ((1, 2), 6)]), (0, 2), 6), [1, 0, 5])

    def test_own_lines_are_answered(self):
        for region in THREE + TWO + FOUR:
            for stops, number in region:
                self.assert_is(unanswered(region, stops, number), None)
                self.assertIs(answers(region, stops, number), True)

    def test_no_heads_elsewhere(self):
        self.assert_is(unanswered(EXAMPLE, (0, 2), 9), [4, 0, 5])
        self.assert_is(unanswered(EXAMPLE, (0, 2), 10), None)
        self.assert_is(unanswered(EXAMPLE, (1, 2), 5), [0, 0, 5])
        self.assert_is(unanswered(EXAMPLE, (0, 1, 2), 9), [4, 0, 5])

    def test_number_one(self):
        self.assert_is(unanswered(EXAMPLE, (0, 1), 1), [0, 1, 0])
        self.assert_is(unanswered(Region(2, [((0, 1), 1)]), (0, 1), 1), None)

    def test_no_lines_and_villages_that_no_lines_connect(self):
        self.assert_is(unanswered(Region.bare(3), (0, 2), 4), [0, 0, 4])
        self.assert_is(unanswered(Region(4, [((0, 1), 1), ((2, 3), 1)]), (0, 3), 12), [0, 0, 0, 12])

    def test_every_line(self):
        for region in THREE + TWO:
            for stops in stops_of(region.villages):
                for number in (1, 2, 3, 5, 8):
                    wanted = first_unanswered(region, stops, number)
                    self.assert_is(unanswered(region, stops, number), wanted)
                    self.assertIs(answers(region, stops, number), wanted is None)
        for region in FOUR:
            for stops in stops_of(4):
                self.assert_is(unanswered(region, stops, 4), first_unanswered(region, stops, 4))

    def test_censuses_of_this_kind_are_enough(self):
        for region in THREE[::2]:
            for stops in stops_of(3):
                for number in (2, 4, 6):
                    able = [census for census in censuses_to(3, 7) if sum(census[stop] for stop in stops) >= number]
                    together = all(is_together(region, census, stops) for census in able)
                    self.assertIs(answers(region, stops, number), together)

    def test_at_the_bounds(self):
        for region in GREATEST:
            for stops in stops_of(region.villages):
                for number in range(1, 13):
                    self.assert_short(unanswered, region, stops, number)

    def test_clean(self):
        self.assert_clean(unanswered, EXAMPLE, (0, 2), 6)
        self.assert_clean(unanswered, EXAMPLE, (0, 1), 5)
        self.assert_clean(answers, EXAMPLE, (0, 2), 6)
