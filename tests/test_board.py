"""Point [16]: the board of a world."""

from tests.checks import Checks
from villagelines.lots.board import board_of
from villagelines.region.book import Region


class TestBoard(Checks):

    def test_interface(self):
        board = board_of(Region(2, [((0, 1), 5)]), [3], [1])
        self.assert_is(board, ' 0               0  0\n 1               3  1')

    def test_lots_are_numbered_in_the_order_of_the_division(self):
        region = Region(5, [((0, 3), 4), ((1, 4), 2)])
        self.assert_is(board_of(region, [4, 12, 1], [3, 4, 2]).split("\n"), [
            " 0               0  0",
            " 1               0  1",
            " 2               1  2",
            " 3               4  0",
            " 4              12  1",
        ])

    def test_one_village(self):
        self.assert_is(board_of(Region.bare(1), [3, 2], [0, 0]), " 0               5  0")

    def test_no_families_and_no_lines(self):
        self.assert_is(board_of(Region.bare(2), [], []), " 0               0  0\n 1               0  1")

    def test_great_heads(self):
        rows = board_of(Region.bare(7), [10 ** 12] * 6, [6] * 6).split("\n")
        self.assert_is(rows[6], " 6   6000000000000  6")
        self.assert_is([len(row) for row in rows], [21] * 7)

    def test_one_lot(self):
        rows = board_of(Region(7, [((0, 1, 2, 3, 6), 1), ((3, 4, 5), 1)]), [1], [5]).split("\n")
        self.assert_is([row[-3:] for row in rows], ["  0"] * 7)
        self.assert_is([row[:2] for row in rows], [f" {village}" for village in range(7)])

    def test_clean(self):
        self.assert_clean(board_of, Region(2, [((0, 1), 5)]), [3, 4], [1, 0])
