"""The least newcomers at two villages at once that bring two villages into one lot."""

from villagelines.least.newcomers import least_newcomers
from villagelines.least.stairs import with_newcomers
from villagelines.lots.closing import lots_of


def _all_least(region, census, first, second, one, other):
    """The least pairs, ascending."""
    pairs = []
    # More than the greatest number of a line does nothing more.
    most = region.greatest
    while most >= 0:
        here = least_newcomers(region, with_newcomers(census, second, most), first, one, other)
        if here is None:
            return pairs
        there = least_newcomers(region, with_newcomers(census, first, here), second, one, other)
        pairs.append((here, there))
        most = there - 1
    return pairs


def _greatest_failing(pairs):
    """The pairs below which all that are not enough lie, with None for however many."""
    if len(pairs) == 0:
        return [(None, None)]
    corners = []
    if pairs[0][0] > 0:
        corners.append((pairs[0][0] - 1, None))
    for before, after in zip(pairs, pairs[1:]):
        corners.append((after[0] - 1, before[1] - 1))
    if pairs[-1][1] > 0:
        corners.append((None, pairs[-1][1] - 1))
    return corners


def _grown(region, census, village, newcomers):
    """The census with the newcomers, None being as many as the greatest number of a line."""
    return with_newcomers(census, village, region.greatest if newcomers is None else newcomers)


def least_pairs(region, census, first, second, one, other):
    """The least pairs of newcomers that are enough, and the corners that bar all others."""
    pairs = _all_least(region, census, first, second, one, other)
    corners = []
    for here, there in _greatest_failing(pairs):
        grown = _grown(region, _grown(region, census, first, here), second, there)
        corners.append((here, there, lots_of(region, grown)))
    return pairs, corners
