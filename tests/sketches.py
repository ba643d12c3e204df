"""Small sketches for the tests."""

from itertools import product

from villagelines.region.book import Region
from villagelines.sketch.sketch import Sketch

EXAMPLE = Region(3, [((0, 1), 5), ((1, 2), 6)])
REGIONS = [
    EXAMPLE,
    Region.bare(3),
    Region(3, [((0, 1), 3)]),
    Region(3, [((0, 1, 2), 4), ((0, 2), 2)]),
    Region(3, [((0, 1), 2), ((1, 2), 3), ((0, 2), 5)]),
]
SKETCHES = [
    Sketch([(0,), (1, 2)], [(3, 3), (2, 4)]),
    Sketch([(0, 1, 2)], [(1, 6)]),
    Sketch([(0,), (2,)], [(2, 2), (3, 3)]),
    Sketch([(0, 2), (0, 1, 2)], [(1, 2), (2, 3)]),
    Sketch([(1,), (0, 2), (0, 1)], [(1, 2), (1, 3), (2, 3)]),
    Sketch([(0, 1), (0, 1), (2,), (0, 2)], [(1, 1), (1, 2), (1, 2), (2, 3)]),
    Sketch([], []),
]
PAIRS = list(product(REGIONS, SKETCHES))


def worlds_by_definition(sketch):
    """All worlds that fit, in their order."""
    homes = product(*sketch.homes)
    return [(list(heads), list(placing)) for placing in homes
            for heads in product(*[range(least, most + 1) for least, most in sketch.spans])]


def questions_about(region, sketch):
    """All questions about the worlds of the sketch."""
    families = range(len(sketch.homes))
    meet = [("meet", one, other) for one in families for other in families if one != other]
    live = [("live", family, village) for family in families for village in range(region.villages)]
    return meet + live + [("run", line) for line in range(len(region))]
