"""Small worlds for the tests, and what their moves lead to, found by making all of them."""

from itertools import product

from villagelines.region.book import Region
from villagelines.region.moves import moved, moves_from

WORLDS = [
    (Region(3, [((0, 1), 5), ((1, 2), 6)]), [3, 2, 1]),
    (Region(4, [((0, 1), 3), ((1, 2, 3), 4), ((0, 3), 5)]), [2, 1, 2]),
    (Region(4, [((0, 2), 2), ((0, 2), 2), ((1, 3), 9)]), [2, 1]),
    (Region(3, [((0, 1, 2), 4), ((0, 2), 3)]), [1, 1, 2, 1]),
    (Region(3, []), [4, 7]),
    (Region(2, [((0, 1), 1)]), []),
    (Region(1, []), [3, 2]),
]


def placings_of(region, heads):
    """All placings of the families."""
    return [list(placing) for placing in product(range(region.villages), repeat=len(heads))]


def ways_from(region, heads, placing):
    """For each placing that can come of this one, as a tuple, a row of moves that leads there."""
    ways = {tuple(placing): []}
    waiting = [list(placing)]
    while waiting:
        now = waiting.pop()
        for move in moves_from(region, heads, now):
            after = moved(region, heads, now, move)
            if tuple(after) not in ways:
                ways[tuple(after)] = [*ways[tuple(now)], move]
                waiting.append(after)
    return ways
