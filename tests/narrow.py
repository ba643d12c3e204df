"""Narrow regions for the tests, and what they do in all censuses, found by looking at each."""

from itertools import product

from tests.worlds import regions_of
from villagelines.lots.closing import lots_of
from villagelines.region.book import Region

EXAMPLE = Region(3, [((0, 1), 5), ((1, 2), 6)])
THREE = [
    EXAMPLE,
    Region.bare(3),
    Region(3, [((0, 2), 3)]),
    Region(3, [((0, 1), 3), ((1, 2), 2), ((0, 2), 5)]),
    Region(3, [((0, 1, 2), 4), ((0, 1), 2), ((0, 1), 2)]),
    Region(3, [((0, 1, 2), 1)]),
    *regions_of(3, (1, 4), 2)[::9],
]
TWO = [Region.bare(2), *regions_of(2, (1, 4, 6), 1), *regions_of(2, (2, 3), 2)]
FOUR = [
    Region(4, [((0, 1), 3), ((1, 2), 4), ((2, 3), 2)]),
    Region(4, [((0, 1), 2), ((2, 3), 4)]),
    Region(4, [((0, 1, 2, 3), 4), ((0, 3), 2), ((1, 2), 3), ((0, 3), 2)]),
    Region(4, [((0, 1, 2), 3), ((1, 2, 3), 4), ((0, 3), 1)]),
    Region.bare(4),
]
ONE = [Region.bare(1)]
# As many lines as a narrow region has at most, with the greatest numbers.
GREATEST = [
    Region(4, [((0, 1), 4), ((1, 2), 4), ((2, 3), 4), ((0, 1), 4), ((1, 2), 4), ((2, 3), 4)]),
    Region(4, [((0, 1, 2, 3), 4), ((0, 1, 2), 4), ((1, 2, 3), 4), ((0, 3), 4), ((0, 2), 4), ((1, 3), 4)]),
    Region(3, [((0, 1), 6), ((1, 2), 6), ((0, 1), 6), ((1, 2), 6), ((0, 1, 2), 6), ((0, 1), 6)]),
    Region(2, [((0, 1), 6)] * 6),
]


def stops_of(villages):
    """All sets of at least two villages, as tuples, smaller ones first, of one size ascending."""
    chosen = product((False, True), repeat=villages)
    sets = [tuple(village for village in range(villages) if row[village]) for row in chosen]
    return sorted([stops for stops in sets if len(stops) > 1], key=lambda stops: (len(stops), stops))


def censuses_to(villages, most):
    """All censuses with entries up to the most, ascending."""
    return [list(census) for census in product(range(most + 1), repeat=villages)]


def is_together(region, census, stops):
    """True if all stops are in one lot."""
    return any(set(stops) <= set(lot) for lot in lots_of(region, census))


def first_unanswered(region, stops, number):
    """The first census with the number of heads at the stops alone in which they are in several lots, or None."""
    for census in censuses_to(region.villages, number):
        if sum(census) == number == sum(census[stop] for stop in stops) and not is_together(region, census, stops):
            return census
    return None
