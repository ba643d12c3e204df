"""Point [8]: walks, trails and ways back."""

from itertools import product

from tests.checks import Checks, spoil
from villagelines.errors import BadMove
from villagelines.region.book import Region
from villagelines.region.moves import moved, moves_from
from villagelines.region.walks import trail, walk, way_back

REGION = Region(3, [((0, 1), 5), ((1, 2), 6), ((0, 1, 2), 6)])
HEADS = [3, 2, 1]
START = [0, 1, 1]
MOVES = [(0, 0, 1), (1, 1, 2), (2, 2, 0), (1, 2, 1)]
PLACINGS = [[0, 1, 1], [1, 1, 1], [1, 2, 1], [1, 2, 0], [1, 1, 0]]


def walks_from(placing, length):
    """All rows of so many moves from the placing, with the placing at their end."""
    if length == 0:
        return [([], placing)]
    found = []
    for move in moves_from(REGION, HEADS, placing):
        after = moved(REGION, HEADS, placing, move)
        found += [([move, *moves], end) for moves, end in walks_from(after, length - 1)]
    return found


class TestWalk(Checks):

    def test_walk(self):
        for many in range(5):
            self.assert_is(walk(REGION, HEADS, START, MOVES[:many]), PLACINGS[many])

    def test_no_families(self):
        self.assert_is(walk(REGION, [], [], []), [])
        self.assert_raises(BadMove, (0, "family"), walk, REGION, [], [], [(0, 0, 0)])

    def test_no_moves_give_a_new_list(self):
        placing = [0, 1, 1]
        end = walk(REGION, HEADS, placing, [])
        end.append(9)
        self.assert_is(placing, [0, 1, 1])

    def test_each_move_is_made_where_those_before_it_lead(self):
        self.assert_is(walk(REGION, [3, 2], [0, 1], [(0, 0, 1), (0, 0, 0)]), [0, 1])
        self.assert_raises(BadMove, (1, "same"), walk, REGION, [3, 2], [0, 1], [(0, 0, 1), (0, 0, 1)])

    def test_a_move_may_bring_a_line_to_life_or_stop_it(self):
        region = Region(3, [((0, 1), 5), ((1, 2), 6)])
        self.assert_raises(BadMove, (0, "asleep"), walk, region, HEADS, [0, 1, 2], [(2, 1, 1)])
        self.assert_is(walk(region, HEADS, [0, 1, 2], [(0, 0, 1), (2, 1, 1)]), [1, 1, 1])
        stopped = [(0, 0, 1), (0, 1, 2), (1, 0, 0)]
        self.assert_raises(BadMove, (2, "asleep"), walk, region, HEADS, [0, 1, 2], stopped)

    def test_first_fault(self):
        faults = {(3, 0, 1): "family", (0, 3, 1): "line", (1, 0, 1): "home",
                  (0, 0, 2): "stop", (0, 0, 1): "same"}
        for move, why in faults.items():
            row = [*MOVES[:2], move, (9, 9, 9)]
            self.assert_raises(BadMove, (2, why), walk, REGION, HEADS, START, row)
        self.assert_raises(BadMove, (0, "asleep"), walk, REGION, [1, 1, 1], START, MOVES)

    def test_clean(self):
        self.assert_clean(walk, REGION, HEADS, list(START), list(MOVES))
        self.assert_clean(walk, REGION, HEADS, list(START), [])


class TestTrail(Checks):

    def test_trail(self):
        for many in range(5):
            placings = trail(REGION, HEADS, START, MOVES[:many])
            self.assert_is(list(placings), PLACINGS[:many + 1])

    def test_no_families(self):
        self.assert_is(list(trail(REGION, [], [], [])), [[]])

    def test_bad_move_comes_behind_the_placings_up_to_there(self):
        placings = trail(REGION, HEADS, START, [*MOVES[:2], (0, 0, 1), MOVES[2]])
        self.assert_is([next(placings), next(placings), next(placings)], PLACINGS[:3])
        self.assert_raises(BadMove, (2, "same"), next, placings)

    def test_first_move_bad(self):
        placings = trail(REGION, HEADS, START, [(0, 0, 0)])
        self.assert_is(next(placings), START)
        self.assert_raises(BadMove, (0, "same"), next, placings)

    def test_read_in_part(self):
        heads, placing, moves = list(HEADS), list(START), list(MOVES)
        placings = trail(REGION, heads, placing, moves)
        for wanted in PLACINGS[:3]:
            self.assert_is(next(placings), wanted)
            self.assert_is((heads, placing, moves), (HEADS, START, MOVES))
        placings.close()
        self.assert_is((heads, placing, moves), (HEADS, START, MOVES))

    def test_changing_a_placing_changes_no_later_one(self):
        start = list(START)
        found = []
        for placing in trail(REGION, HEADS, start, MOVES):
            found.append(list(placing))
            spoil(placing)
        self.assert_is(found, PLACINGS)
        self.assert_is(start, START)

    def test_clean(self):
        self.assert_clean(lambda *given: list(trail(*given)), REGION, HEADS, list(START), list(MOVES))


class TestWayBack(Checks):

    def test_way_back(self):
        self.assert_is(way_back(START, MOVES), [(1, 2, 2), (2, 2, 1), (1, 1, 1), (0, 0, 0)])
        self.assert_is(way_back(START, MOVES[:1]), [(0, 0, 0)])

    def test_no_moves(self):
        self.assert_is(way_back(START, []), [])
        self.assert_is(way_back([], []), [])

    def test_leads_to_the_beginning(self):
        for placing in product(range(3), repeat=3):
            for moves, end in walks_from(list(placing), 3):
                back = way_back(list(placing), moves)
                self.assertEqual(len(back), len(moves))
                self.assertEqual([move[:2] for move in back], [move[:2] for move in moves[::-1]])
                self.assert_is(walk(REGION, HEADS, end, back), list(placing))

    def test_clean(self):
        self.assert_clean(way_back, list(START), list(MOVES))
