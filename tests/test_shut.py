"""Point [13]: leaks and shut divisions."""

from itertools import product

from tests.checks import Checks, spoil
from tests.worlds import WORLDS, placings_of
from villagelines.lots.closing import lots_of
from villagelines.lots.divisions import divisions_of, place_of, singles
from villagelines.lots.order import is_finer, meet_of
from villagelines.lots.shut import is_shut, is_shut_for_all, leak_of, shut_divisions
from villagelines.region.book import Region
from villagelines.region.census import census_of
from villagelines.region.moves import moved, moves_from

EXAMPLE = Region(3, [((0, 1), 5), ((1, 2), 6)])
REGIONS = [
    Region.bare(3),
    EXAMPLE,
    Region(3, [((0, 1, 2), 4), ((0, 2), 2), ((0, 2), 2)]),
    Region(3, [((0, 1), 1), ((0, 2), 6), ((1, 2), 3)]),
]
CENSUSES = [list(census) for census in product(range(5), repeat=3)]
DIVISIONS = list(divisions_of(3))
CASES = list(product(REGIONS, CENSUSES, DIVISIONS))


def leaks_of(region, census, division):
    """The indexes of all lines that leak, by the definition."""
    found = []
    for at, (stops, number) in enumerate(region.lines):
        touched = [block for block in division if set(block) & set(stops)]
        heads = sum(census[village] for block in touched for village in block)
        if len(touched) >= 2 and heads >= number:
            found.append(at)
    return found


class TestLeak(Checks):

    def test_examples(self):
        self.assert_is(leak_of(EXAMPLE, [3, 2, 0], singles(3)), 0)
        self.assert_is(leak_of(EXAMPLE, [3, 2, 0], [[0, 1], [2]]), None)
        self.assert_is(leak_of(EXAMPLE, [3, 2, 1], [[0, 1], [2]]), 1)
        self.assert_is(leak_of(EXAMPLE, [9, 9, 9], [[0, 1, 2]]), None)

    def test_exactly_its_number(self):
        self.assert_is(leak_of(EXAMPLE, [5, 0, 0], singles(3)), 0)
        self.assert_is(leak_of(EXAMPLE, [4, 0, 0], singles(3)), None)

    def test_touched_blocks_bring_all_their_heads(self):
        self.assert_is(leak_of(EXAMPLE, [0, 1, 4], [[0, 2], [1]]), 0)

    def test_first_of_several(self):
        region = Region(3, [((1, 2), 9), ((0, 2), 1), ((0, 1), 1), ((0, 1), 1)])
        self.assert_is(leak_of(region, [1, 1, 1], singles(3)), 1)
        self.assert_is(leak_of(region, [1, 1, 1], [[0, 2], [1]]), 2)

    def test_no_lines_and_one_village(self):
        self.assert_is(leak_of(Region.bare(3), [9, 9, 9], singles(3)), None)
        self.assert_is(leak_of(Region.bare(1), [9], [[0]]), None)

    def test_every_case(self):
        for region, census, division in CASES:
            leaks = leaks_of(region, census, division)
            self.assert_is(leak_of(region, census, division), leaks[0] if leaks else None)
            self.assertIs(is_shut(region, census, division), not leaks)

    def test_clean(self):
        self.assert_clean(leak_of, EXAMPLE, [3, 2, 1], [[0, 1], [2]])
        self.assert_clean(is_shut, EXAMPLE, [3, 2, 1], [[0, 1], [2]])


class TestFacts(Checks):

    def test_lots_are_shut_and_finer_than_every_shut_division(self):
        for region, census in product(REGIONS, CENSUSES):
            lots = lots_of(region, census)
            self.assertIs(is_shut(region, census, lots), True)
            for division in DIVISIONS:
                if is_shut(region, census, division):
                    self.assertIs(is_finer(lots, division), True)

    def test_meet_of_shut_divisions_is_shut(self):
        for region, census in product(REGIONS, CENSUSES[::3]):
            shut = list(shut_divisions(region, census))
            for one, other in product(shut, repeat=2):
                self.assertIs(is_shut(region, census, meet_of(one, other)), True)

    def test_no_move_crosses_a_shut_division(self):
        for region, heads in WORLDS:
            for placing in placings_of(region, heads):
                shut = list(shut_divisions(region, census_of(region, heads, placing)))
                for family, line, village in moves_from(region, heads, placing):
                    after = moved(region, heads, placing, (family, line, village))
                    census = census_of(region, heads, after)
                    for division in shut:
                        self.assertEqual(place_of(division, placing[family]), place_of(division, village))
                        self.assertIs(is_shut(region, census, division), True)


class TestShutForAll(Checks):

    def test_examples(self):
        lots = [[0, 1], [2]]
        self.assertIs(is_shut_for_all(EXAMPLE, [3, 2, 0], lots, []), True)
        self.assertIs(is_shut_for_all(EXAMPLE, [3, 2, 0], lots, [0]), False)
        self.assertIs(is_shut_for_all(EXAMPLE, [3, 2, 0], lots, [2]), False)
        self.assertIs(is_shut_for_all(EXAMPLE, [9, 9, 9], [[0, 1, 2]], [0, 1, 2]), True)

    def test_newcomers_where_no_leaving_line_touches(self):
        region = Region(4, [((0, 1), 5), ((2, 3), 7)])
        self.assertIs(is_shut_for_all(region, [1, 1, 3, 3], [[0, 1], [2], [3]], [0, 1]), True)
        self.assertIs(is_shut_for_all(region, [1, 1, 3, 3], [[0, 1], [2], [3]], [1, 2]), False)
        self.assertIs(is_shut_for_all(region, [1, 1, 3, 4], [[0, 1], [2], [3]], [0]), False)

    def test_a_village_in_a_touched_block_that_is_no_stop(self):
        self.assertIs(is_shut_for_all(EXAMPLE, [0, 0, 0], [[0], [1, 2]], [2]), False)

    def test_no_villages_is_shut_for_the_census(self):
        for region, census, division in CASES[::3]:
            self.assertIs(is_shut_for_all(region, census, division, []), is_shut(region, census, division))

    def test_no_lines_and_one_village(self):
        self.assertIs(is_shut_for_all(Region.bare(3), [1, 2, 3], singles(3), [0, 1, 2]), True)
        self.assertIs(is_shut_for_all(Region.bare(1), [1], [[0]], [0]), True)
        self.assertIs(is_shut_for_all(Region.bare(1), [1], [[0]], []), True)

    def test_great_number(self):
        region = Region(2, [((0, 1), 10 ** 12)])
        self.assertIs(is_shut_for_all(region, [0, 0], singles(2), [1]), False)
        self.assertIs(is_shut_for_all(region, [0, 10 ** 12 - 1], singles(2), []), True)

    def test_however_many_heads_are_added(self):
        choices = [list(villages) for villages in ((), (0,), (2,), (0, 1), (1, 2), (0, 1, 2))]
        # No number here is above 6, so 6 newcomers do what any number above does.
        for (region, census, division), villages in product(CASES[::2], choices):
            added = [many if village not in villages else many + 6 for village, many in enumerate(census)]
            wanted = is_shut(region, census, division) and is_shut(region, added, division)
            self.assertIs(is_shut_for_all(region, census, division, villages), wanted)

    def test_clean(self):
        self.assert_clean(is_shut_for_all, EXAMPLE, [3, 2, 0], [[0, 1], [2]], [2])
        self.assert_clean(is_shut_for_all, EXAMPLE, [3, 2, 0], [[0, 1], [2]], [])


class TestShutDivisions(Checks):

    def test_examples(self):
        self.assert_is(list(shut_divisions(EXAMPLE, [3, 2, 0])), [[[0, 1, 2]], [[0, 1], [2]]])
        self.assert_is(list(shut_divisions(EXAMPLE, [3, 2, 1])), [[[0, 1, 2]]])
        self.assert_is(list(shut_divisions(EXAMPLE, [0, 0, 0])), DIVISIONS)

    def test_one_village_and_no_lines(self):
        self.assert_is(list(shut_divisions(Region.bare(1), [5])), [[[0]]])
        self.assert_is(list(shut_divisions(Region.bare(3), [5, 5, 5])), DIVISIONS)

    def test_five_villages(self):
        region = Region(5, [((0, 1, 2, 3, 4), 3)])
        self.assert_is(list(shut_divisions(region, [1, 1, 0, 0, 0])), list(divisions_of(5)))
        self.assert_is(list(shut_divisions(region, [1, 1, 0, 0, 1])), [[[0, 1, 2, 3, 4]]])

    def test_every_case(self):
        for region, census in product(REGIONS, CENSUSES):
            wanted = [division for division in DIVISIONS if not leaks_of(region, census, division)]
            self.assert_is(list(shut_divisions(region, census)), wanted)

    def test_read_in_part(self):
        census = [0, 0, 0]
        divisions = shut_divisions(EXAMPLE, census)
        self.assert_is([next(divisions), next(divisions)], DIVISIONS[:2])
        self.assert_is(census, [0, 0, 0])
        divisions.close()
        self.assert_is(census, [0, 0, 0])

    def test_changing_a_division_changes_no_later_one(self):
        found = []
        for division in shut_divisions(EXAMPLE, [0, 0, 0]):
            found.append([list(block) for block in division])
            spoil(division)
        self.assert_is(found, DIVISIONS)
        self.assert_is(list(shut_divisions(EXAMPLE, [0, 0, 0])), DIVISIONS)

    def test_clean(self):
        self.assert_clean(lambda *given: list(shut_divisions(*given)), EXAMPLE, [3, 2, 0])
