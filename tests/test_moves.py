"""Points [1], [7] and [8]: single moves."""

from itertools import product

from tests.checks import Checks
from villagelines.errors import BadMove
from villagelines.region.book import Region
from villagelines.region.census import census_of, heads_in
from villagelines.region.moves import fault_of_move, moved, moves_from

REGION = Region(4, [((0, 1), 5), ((1, 2), 4), ((0, 1, 3), 9), ((0, 1), 5)])
HEADS = [3, 2, 1]
WORLDS = [(REGION, HEADS, list(placing)) for placing in product(range(4), repeat=3)]


class TestFaults(Checks):

    def fault(self, move, placing=(0, 1, 2)):
        return fault_of_move(REGION, HEADS, list(placing), move)

    def test_none(self):
        self.assertIsNone(self.fault((0, 0, 1)))
        self.assertIsNone(self.fault((1, 3, 0)))

    def test_family(self):
        for family in (-1, -3, 3, 10 ** 9):
            self.assert_is(self.fault((family, 0, 1)), "family")

    def test_no_families(self):
        self.assert_is(fault_of_move(REGION, [], [], (0, 0, 1)), "family")

    def test_line(self):
        for line in (-1, -4, 4, 10 ** 9):
            self.assert_is(self.fault((0, line, 1)), "line")
        self.assert_is(fault_of_move(Region.bare(1), [1], [0], (0, 0, 0)), "line")

    def test_home(self):
        self.assert_is(self.fault((2, 0, 1)), "home")

    def test_stop(self):
        for village in (2, 3, -1, -4, 4):
            self.assert_is(self.fault((0, 0, village)), "stop")

    def test_same(self):
        self.assert_is(self.fault((0, 0, 0)), "same")

    def test_asleep(self):
        self.assert_is(self.fault((0, 2, 3)), "asleep")
        self.assert_is(self.fault((1, 1, 2)), "asleep")

    def test_runs_by_exactly_its_number(self):
        region = Region(2, [((0, 1), 5)])
        self.assertIsNone(fault_of_move(region, [3, 2], [0, 1], (0, 0, 1)))
        self.assert_is(fault_of_move(region, [3, 1], [0, 1], (0, 0, 1)), "asleep")

    def test_order_of_faults(self):
        self.assert_is(self.fault((3, 4, 9)), "family")
        self.assert_is(self.fault((2, 4, 9)), "line")
        self.assert_is(self.fault((2, 2, 2)), "home")
        self.assert_is(self.fault((0, 2, 2)), "stop")
        self.assert_is(self.fault((0, 2, 0)), "same")

    def test_clean(self):
        self.assert_clean(fault_of_move, REGION, HEADS, [0, 1, 2], (0, 0, 1))
        self.assert_clean(fault_of_move, REGION, HEADS, [0, 1, 2], (0, 2, 3))


class TestMoved(Checks):

    def test_moved(self):
        self.assert_is(moved(REGION, HEADS, [0, 1, 2], (0, 0, 1)), [1, 1, 2])
        self.assert_is(moved(REGION, HEADS, [1, 1, 2], (1, 1, 2)), [1, 2, 2])

    def test_bad_moves(self):
        faults = {(3, 0, 1): "family", (0, 4, 1): "line", (2, 0, 1): "home",
                  (0, 0, 2): "stop", (0, 0, 0): "same", (0, 2, 3): "asleep"}
        for move, why in faults.items():
            self.assert_raises(BadMove, (0, why), moved, REGION, HEADS, [0, 1, 2], move)

    def test_clean(self):
        self.assert_clean(moved, REGION, HEADS, [0, 1, 2], (0, 0, 1))

    def test_a_bad_move_changes_nothing(self):
        placing = [0, 1, 2]
        self.assert_raises(BadMove, (0, "asleep"), moved, REGION, HEADS, placing, (0, 2, 3))
        self.assert_is(placing, [0, 1, 2])

    def test_a_move_keeps_the_heads_of_its_line_and_can_be_made_back(self):
        for region, heads, placing in WORLDS:
            for family, line, village in moves_from(region, heads, placing):
                after = moved(region, heads, placing, (family, line, village))
                stops = region.lines[line][0]
                self.assertEqual(heads_in(census_of(region, heads, after), stops),
                                 heads_in(census_of(region, heads, placing), stops))
                self.assert_is(moved(region, heads, after, (family, line, placing[family])), placing)


class TestMovesFrom(Checks):

    def test_moves(self):
        moves = moves_from(REGION, HEADS, [0, 1, 2])
        self.assert_is(list(moves), [(0, 0, 1), (0, 3, 1), (1, 0, 0), (1, 3, 0)])

    def test_several_stops(self):
        region = Region(4, [((0, 1, 3), 1)])
        moves = moves_from(region, [1, 1], [1, 3])
        self.assert_is(list(moves), [(0, 0, 0), (0, 0, 3), (1, 0, 0), (1, 0, 1)])

    def test_none(self):
        self.assert_is(list(moves_from(REGION, [], [])), [])
        self.assert_is(list(moves_from(Region.bare(1), [5], [0])), [])
        self.assert_is(list(moves_from(REGION, [1, 1, 1], [0, 1, 2])), [])

    def test_all_that_can_be_made_ascending(self):
        everything = list(product(range(-1, 5), repeat=3))
        for world in WORLDS:
            wanted = [move for move in everything if fault_of_move(*world, move) is None]
            self.assert_is(list(moves_from(*world)), wanted)

    def test_read_in_part(self):
        heads, placing = [3, 2, 1], [0, 1, 2]
        moves = moves_from(REGION, heads, placing)
        self.assert_is(next(moves), (0, 0, 1))
        self.assert_is((heads, placing), ([3, 2, 1], [0, 1, 2]))
        self.assert_is(next(moves), (0, 3, 1))
        moves.close()
        self.assert_is((heads, placing), ([3, 2, 1], [0, 1, 2]))

    def test_clean(self):
        self.assert_clean(lambda *world: list(moves_from(*world)), REGION, HEADS, [0, 1, 2])
