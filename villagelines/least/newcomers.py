"""The least newcomers that bring two villages into one lot."""

from villagelines.least.stairs import staircase, with_newcomers
from villagelines.lots.closing import joins_of, lot_of, lots_of


def least_newcomers(region, census, village, one, other):
    """The least number of newcomers at the village for which the two are in one lot, or None."""
    if other in lot_of(region, census, one):
        return 0
    # Only the lot of the village grows, so the two can only come together in it.
    for newcomers, lot, _ in staircase(region, census, village):
        if one in lot and other in lot:
            return newcomers
    return None


def newcomers_for(region, census, village, one, other):
    """The least newcomers with what shows them: joins, and lots that one newcomer less leaves."""
    count = least_newcomers(region, census, village, one, other)
    if count is None:
        return ("never", lots_of(region, with_newcomers(census, village, region.greatest)))
    joins = joins_of(region, with_newcomers(census, village, count))
    fewer = lots_of(region, with_newcomers(census, village, count - 1)) if count > 0 else None
    return ("newcomers", count, joins, fewer)
