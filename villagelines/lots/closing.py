"""The lots of a census: blocks joined by lines until no line can join."""

from villagelines.lots.divisions import join_blocks, place_of, singles, touched_by
from villagelines.region.census import heads_in


def _can_join(line, census, division):
    """True if the line touches several blocks that have enough heads for it."""
    stops, number = line
    places = touched_by(division, stops)
    return len(places) > 1 and sum([heads_in(census, division[place]) for place in places]) >= number


def first_join(region, census, division):
    """The index of the first line that can join blocks of the division, or None."""
    for at, line in enumerate(region.lines):
        if _can_join(line, census, division):
            return at
    return None


def _closing(region, census):
    """The joins of the census and its lots, as a pair."""
    joins = []
    division = singles(region.villages)
    line = first_join(region, census, division)
    while line is not None:
        joins.append(line)
        division = join_blocks(division, touched_by(division, region.lines[line][0]))
        line = first_join(region, census, division)
    return joins, division


def lots_of(region, census):
    """The lots of the census, a division."""
    return _closing(region, census)[1]


def joins_of(region, census):
    """The indexes of the lines that join, each time the first that can."""
    return _closing(region, census)[0]


def lot_of(region, census, village):
    """The lot that has the village."""
    lots = lots_of(region, census)
    return lots[place_of(lots, village)]
