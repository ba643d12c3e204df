"""Newcomers at one village, and how its lot grows with them."""

from villagelines.lots.closing import lots_of
from villagelines.lots.divisions import place_of, touched_by, villages_at
from villagelines.region.census import heads_in


def with_newcomers(census, village, newcomers):
    """The census with so many more heads in the village."""
    grown = list(census)
    grown[village] += newcomers
    return grown


def _missing(region, census, lots, place):
    """The newcomers that each line needs at this lot to join it to another; the census has none of them."""
    missing = []
    for stops, number in region.lines:
        places = touched_by(lots, stops)
        if len(places) > 1 and place in places:
            missing.append(number - heads_in(census, villages_at(lots, places)))
    return missing


def staircase(region, census, village):
    """The steps `(newcomers, lot, heads)` by which the lot of the village grows."""
    steps = []
    newcomers = 0
    while newcomers is not None:
        lots = lots_of(region, with_newcomers(census, village, newcomers))
        place = place_of(lots, village)
        steps.append((newcomers, lots[place], heads_in(census, lots[place])))
        newcomers = min(_missing(region, census, lots, place), default=None)
    return steps
