"""Points [10] and [11]: divisions of the villages."""

from itertools import product

from tests.checks import Checks, spoil
from villagelines.errors import BadDivision
from villagelines.lots.divisions import divisions_of, join_blocks, place_of, singles, tidy, touched_by

DIVISION = [[0, 3], [1], [2, 4]]


class TestTidy(Checks):

    def test_tidy(self):
        self.assert_is(tidy(5, [[4, 2], [1], [3, 0]]), DIVISION)
        self.assert_is(tidy(5, DIVISION), DIVISION)
        self.assert_is(tidy(3, [[2, 1, 0]]), [[0, 1, 2]])

    def test_drops_empty_blocks(self):
        self.assert_is(tidy(3, [[], [2, 1], [], [0], []]), [[0], [1, 2]])

    def test_one_village(self):
        self.assert_is(tidy(1, [[0]]), [[0]])

    def test_range(self):
        self.assert_raises(BadDivision, ("range",), tidy, 2, [[0, 1], [2]])
        self.assert_raises(BadDivision, ("range",), tidy, 2, [[0, 1, -1]])

    def test_twice(self):
        self.assert_raises(BadDivision, ("twice",), tidy, 2, [[0, 1, 0]])
        self.assert_raises(BadDivision, ("twice",), tidy, 2, [[0, 1], [1]])

    def test_missing(self):
        self.assert_raises(BadDivision, ("missing",), tidy, 3, [[0], [2]])
        self.assert_raises(BadDivision, ("missing",), tidy, 1, [])
        self.assert_raises(BadDivision, ("missing",), tidy, 1, [[]])

    def test_order_of_faults(self):
        self.assert_raises(BadDivision, ("range",), tidy, 3, [[0, 0], [1, 3]])
        self.assert_raises(BadDivision, ("range",), tidy, 3, [[0, 0, 9, 9]])
        self.assert_raises(BadDivision, ("twice",), tidy, 3, [[0, 1], [1]])

    def test_clean(self):
        self.assert_clean(tidy, 5, [[4, 2], [1], [], [3, 0]])
        self.assert_clean(tidy, 5, [[0, 3], [1], [2, 4]])


class TestBlocks(Checks):

    def test_singles(self):
        self.assert_is(singles(1), [[0]])
        self.assert_is(singles(3), [[0], [1], [2]])
        self.assert_clean(singles, 3)

    def test_place_of(self):
        self.assert_is([place_of(DIVISION, village) for village in range(5)], [0, 1, 2, 0, 2])
        self.assert_is(place_of([[0]], 0), 0)
        self.assert_clean(place_of, [[0, 3], [1], [2, 4]], 4)

    def test_touched_by(self):
        self.assert_is(touched_by(DIVISION, (3, 4)), [0, 2])
        self.assert_is(touched_by(DIVISION, [4, 0]), [0, 2])
        self.assert_is(touched_by(DIVISION, (2, 4)), [2])
        self.assert_is(touched_by(DIVISION, (0, 1, 2, 3, 4)), [0, 1, 2])
        self.assert_is(touched_by(DIVISION, (1,)), [1])
        self.assert_clean(touched_by, [[0, 3], [1], [2, 4]], [4, 0])

    def test_join_blocks(self):
        self.assert_is(join_blocks(DIVISION, [0, 2]), [[0, 2, 3, 4], [1]])
        self.assert_is(join_blocks(DIVISION, [2, 1]), [[0, 3], [1, 2, 4]])
        self.assert_is(join_blocks(DIVISION, [1, 2, 0]), [[0, 1, 2, 3, 4]])

    def test_join_blocks_orders_by_first_village(self):
        self.assert_is(join_blocks([[0], [1], [2], [3]], [3, 1]), [[0], [1, 3], [2]])

    def test_join_one_block(self):
        self.assert_is(join_blocks(DIVISION, [1]), DIVISION)
        self.assert_is(join_blocks([[0]], [0]), [[0]])

    def test_join_blocks_clean(self):
        self.assert_clean(join_blocks, [[0, 3], [1], [2, 4]], [2, 1])
        self.assert_clean(join_blocks, [[0, 3], [1], [2, 4]], [0])


def numbers_of(division, villages):
    """The block number of each village."""
    return [place_of(division, village) for village in range(villages)]


class TestDivisionsOf(Checks):

    def test_few_villages(self):
        self.assert_is(list(divisions_of(1)), [[[0]]])
        self.assert_is(list(divisions_of(2)), [[[0, 1]], [[0], [1]]])
        self.assert_is(list(divisions_of(3)), [
            [[0, 1, 2]], [[0, 1], [2]], [[0, 2], [1]], [[0], [1, 2]], [[0], [1], [2]]])

    def test_how_many(self):
        self.assertEqual([len(list(divisions_of(many))) for many in range(1, 6)], [1, 2, 5, 15, 52])

    def test_first_and_last(self):
        found = list(divisions_of(5))
        self.assert_is(found[0], [[0, 1, 2, 3, 4]])
        self.assert_is(found[-1], singles(5))

    def test_each_once_ascending(self):
        for villages in range(1, 6):
            found = list(divisions_of(villages))
            self.assert_is([tidy(villages, division) for division in found], found)
            numbers = [numbers_of(division, villages) for division in found]
            self.assertEqual(numbers, sorted(numbers))
            everything = [tidy(villages, [[at for at, name in enumerate(names) if name == block]
                                          for block in range(villages)])
                          for names in product(range(villages), repeat=villages)]
            self.assertEqual(sorted(found), sorted({repr(one): one for one in everything}.values()))

    def test_changing_a_division_changes_no_later_one(self):
        wanted = list(divisions_of(4))
        found = []
        for division in divisions_of(4):
            found.append([list(block) for block in division])
            spoil(division)
        self.assert_is(found, wanted)

    def test_read_in_part(self):
        divisions = divisions_of(3)
        spoil(next(divisions))
        divisions.close()
        self.assert_is(next(divisions_of(3)), [[0, 1, 2]])
