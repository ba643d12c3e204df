"""Point [34]: least numbers, tables and books."""

from itertools import product

from tests.checks import Checks
from tests.narrow import EXAMPLE, FOUR, GREATEST, ONE, THREE, TWO, censuses_to, first_unanswered, stops_of
from villagelines.books.answers import answers
from villagelines.books.parting import alike
from villagelines.books.table import book_of, least_number, table_of
from villagelines.lots.closing import lots_of
from villagelines.region.book import Region


def least_by_definition(region, stops):
    """The first number for which no census is unanswered, or None."""
    # No number here is above 6, so with 24 heads at up to three stops one of them has enough for every line.
    for number in range(1, 25):
        if first_unanswered(region, stops, number) is None:
            return number
    return None


class TestLeastNumber(Checks):

    def test_examples(self):
        self.assert_is(least_number(EXAMPLE, (0, 1)), 5)
        self.assert_is(least_number(EXAMPLE, (1, 2)), 6)
        self.assert_is(least_number(EXAMPLE, (0, 2)), 10)
        self.assert_is(least_number(EXAMPLE, (0, 1, 2)), 10)

    def test_one(self):
        self.assert_is(least_number(Region(3, [((0, 1, 2), 1)]), (0, 2)), 1)

    def test_villages_that_no_lines_connect(self):
        region = Region(4, [((0, 1), 1), ((2, 3), 4)])
        self.assert_is([least_number(region, stops) for stops in ((0, 1), (2, 3), (0, 2), (0, 1, 2), (0, 1, 2, 3))],
                       [1, 4, None, None, None])
        self.assert_is(least_number(Region.bare(2), (0, 1)), None)

    def test_every_set(self):
        for region in TWO + THREE[:6]:
            for stops in stops_of(region.villages):
                self.assert_is(least_number(region, stops), least_by_definition(region, stops))

    def test_every_greater_number_is_answered(self):
        for region in THREE + FOUR:
            for stops in stops_of(region.villages):
                least = least_number(region, stops)
                for number in range(1, 13):
                    self.assertIs(answers(region, stops, number), least is not None and number >= least)

    def test_clean(self):
        self.assert_clean(least_number, EXAMPLE, (0, 2))


class TestTable(Checks):

    def test_example(self):
        self.assert_is(table_of(EXAMPLE), [((0, 1), 5), ((0, 2), 10), ((1, 2), 6), ((0, 1, 2), 10)])

    def test_with_none(self):
        self.assert_is(table_of(Region(3, [((0, 2), 3)])),
                       [((0, 1), None), ((0, 2), 3), ((1, 2), None), ((0, 1, 2), None)])
        self.assert_is(table_of(Region.bare(2)), [((0, 1), None)])

    def test_one_village(self):
        self.assert_is(table_of(Region.bare(1)), [])

    def test_order(self):
        for region in FOUR + THREE + TWO + ONE:
            rows = [(stops, least_number(region, stops)) for stops in stops_of(region.villages)]
            self.assert_is(table_of(region), rows)

    def test_equal_exactly_for_alike_regions(self):
        for regions in (THREE, TWO, FOUR):
            for one, other in product(regions, repeat=2):
                self.assertIs(table_of(one) == table_of(other), alike(one, other))

    def test_at_the_bounds(self):
        for region in GREATEST:
            table = self.assert_short(table_of, region)
            self.assertEqual([stops for stops, _ in table], stops_of(region.villages))

    def test_clean(self):
        self.assert_clean(table_of, EXAMPLE)


class TestBook(Checks):

    def test_example(self):
        book = book_of(3, table_of(EXAMPLE))
        self.assertIsInstance(book, Region)
        self.assertEqual(book, Region(3, [((0, 1), 5), ((0, 2), 10), ((1, 2), 6), ((0, 1, 2), 10)]))

    def test_none_makes_no_line(self):
        rows = [((0, 1), None), ((0, 2), 3), ((1, 2), None), ((0, 1, 2), None)]
        self.assertEqual(book_of(3, rows), Region(3, [((0, 2), 3)]))
        self.assertEqual(book_of(2, [((0, 1), None)]), Region.bare(2))

    def test_one_village(self):
        self.assertEqual(book_of(1, []), Region.bare(1))

    def test_alike_to_the_region(self):
        for region in THREE + TWO + ONE:
            book = book_of(region.villages, table_of(region))
            for census in censuses_to(region.villages, 7):
                self.assert_is(lots_of(book, census), lots_of(region, census))

    def test_clean(self):
        self.assert_clean(lambda villages, rows: book_of(villages, rows).lines, 3, table_of(EXAMPLE))
