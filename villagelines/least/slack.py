"""Slack: how far all numbers may rise while two villages stay in one lot."""

from villagelines.least.halving import last_passing
from villagelines.lots.closing import lot_of
from villagelines.region.book import Region


def raised(region, by):
    """The region with so much added to each number, which stays at least 1."""
    return Region(region.villages, [(stops, max(1, number + by)) for stops, number in region.lines])


def _is_together(region, by, census, one, other):
    """True if the two villages are in one lot of the region raised by so much."""
    return other in lot_of(raised(region, by), census, one)


def slack_of(region, census, one, other):
    """The greatest number by which the region can be raised with the two villages in one lot, or None."""
    # Raised by the one number all lines want 1 head, raised by the other they want more than there are.
    low, high = -region.greatest, sum(census)
    if not _is_together(region, low, census, one, other):
        return None
    return last_passing(low, high, lambda by: _is_together(region, by, census, one, other))


def _levels_from(region, census, one):
    """The slack of the village and each village, None for itself."""
    return [None if other == one else slack_of(region, census, one, other) for other in range(region.villages)]


def levels_of(region, census):
    """For each village its slack with each village."""
    return [_levels_from(region, census, one) for one in range(region.villages)]
