"""The lots of a census: blocks joined by lines until no line can join."""

from villagelines.lots.divisions import join_along, place_of, singles
from villagelines.lots.shut import leak_of


def joined_by(region, division, line):
    """The division in which all blocks that the line touches are one block."""
    return join_along(division, [region.lines[line][0]])


def _closing(region, census, division):
    """The joins of the census from this division on, and the division in which they end, as a pair."""
    joins = []
    # A line can join exactly while it leaks.
    line = leak_of(region, census, division)
    while line is not None:
        joins.append(line)
        division = joined_by(region, division, line)
        line = leak_of(region, census, division)
    return joins, division


def lots_from(region, census, division):
    """The blocks of this division, joined by lines until no line can join."""
    return _closing(region, census, division)[1]


def lots_of(region, census):
    """The lots of the census, a division."""
    return lots_from(region, census, singles(region.villages))


def joins_of(region, census):
    """The indexes of the lines that join, each time the first that can."""
    return _closing(region, census, singles(region.villages))[0]


def lot_of(region, census, village):
    """The lot that has the village."""
    lots = lots_of(region, census)
    return lots[place_of(lots, village)]


def connected_by(region):
    """The division into villages that the lines connect, whether they run or not."""
    # With so many heads in each village every line joins.
    return lots_of(region, [region.greatest] * region.villages)
