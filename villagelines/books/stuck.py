"""Stuck censuses: some two people can never meet."""

from villagelines.books.censuses import censuses_at
from villagelines.lots.closing import connected_by, lots_of
from villagelines.lots.divisions import touched_by


def _is_stuck(region, census):
    """True if villages that have heads are in several lots."""
    inhabited = [village for village, many in enumerate(census) if many > 0]
    return len(touched_by(lots_of(region, census), inhabited)) > 1


def stuck_census(region, count):
    """The first stuck census with exactly so many heads, or None."""
    for census in censuses_at(region.villages, list(range(region.villages)), count):
        if _is_stuck(region, census):
            return census
    return None


def most_stuck(region):
    """The most heads of a stuck census, the first such census and its lots; None if there is no most."""
    if len(connected_by(region)) > 1:
        return None
    most = (0, None, None)
    census = stuck_census(region, 2)
    # Two people who can never meet stay so when others leave: no count is skipped.
    while census is not None:
        most = (sum(census), census, lots_of(region, census))
        census = stuck_census(region, most[0] + 1)
    return most
