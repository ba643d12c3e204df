"""Small worlds for the tests, and what their moves lead to, found by making all of them."""

from itertools import product

from villagelines.region.book import Region
from villagelines.region.moves import moved, moves_from

WORLDS = [
    (Region(3, [((0, 1), 5), ((1, 2), 6)]), [3, 2, 1]),
    (Region(4, [((0, 1), 3), ((1, 2, 3), 4), ((0, 3), 5)]), [2, 1, 2]),
    (Region(4, [((0, 2), 2), ((0, 2), 2), ((1, 3), 9)]), [2, 1]),
    (Region(3, [((0, 1, 2), 4), ((0, 2), 3)]), [1, 1, 2, 1]),
    (Region(3, []), [4, 7]),
    (Region(2, [((0, 1), 1)]), []),
    (Region(1, []), [3, 2]),
]


def placings_of(region, heads):
    """All placings of the families."""
    return [list(placing) for placing in product(range(region.villages), repeat=len(heads))]


def ways_from(region, heads, placing):
    """For each placing that can come of this one, as a tuple, a row of moves that leads there."""
    ways = {tuple(placing): []}
    waiting = [list(placing)]
    while waiting:
        now = waiting.pop()
        for move in moves_from(region, heads, now):
            after = moved(region, heads, now, move)
            if tuple(after) not in ways:
                ways[tuple(after)] = [*ways[tuple(now)], move]
                waiting.append(after)
    return ways


def regions_of(villages, numbers, many):
    """All regions with so many lines and these numbers, for two or three villages."""
    stops = [(0, 1)] if villages == 2 else [(0, 1), (0, 2), (1, 2), (0, 1, 2)]
    lines = list(product(stops, numbers))
    return [Region(villages, list(chosen)) for chosen in product(lines, repeat=many)]


# Every small region with at most two lines, with a few rows of heads each.
SMALL_WORLDS = [
    (region, heads)
    for region in [Region.bare(2), *regions_of(2, (1, 2, 3), 1), *regions_of(3, (2, 3), 1), *regions_of(3, (2, 3), 2)]
    for heads in ([1], [2, 1], [1, 1, 1])
]
