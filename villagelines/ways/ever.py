"""What can ever be, whatever row of moves is made from a placing."""

from villagelines.lots.closing import lot_of, lots_of
from villagelines.region.census import census_of, heads_in


def _lot_around(region, heads, placing, village):
    """The lot of the village in the placing."""
    return lot_of(region, census_of(region, heads, placing), village)


def can_live(region, heads, placing, family):
    """The villages where the family can ever live, ascending."""
    return _lot_around(region, heads, placing, placing[family])


def company_of(region, heads, placing, family):
    """The other families with which the family can ever live in one village, ascending."""
    lot = can_live(region, heads, placing, family)
    return [other for other, village in enumerate(placing) if village in lot and other != family]


def heads_range(region, heads, placing, village):
    """The least and the most heads that the village can ever have."""
    census = census_of(region, heads, placing)
    lot = lot_of(region, census, village)
    least = 0 if len(lot) > 1 else census[village]
    return least, heads_in(census, lot)


def fate_of(region, heads, placing, line):
    """Whether the line runs always, sometimes or never."""
    stops, number = region.lines[line]
    census = census_of(region, heads, placing)
    lot = lot_of(region, census, stops[0])
    if not all([stop in lot for stop in stops]) or heads_in(census, lot) < number:
        return "never"
    return "always" if list(stops) == lot else "sometimes"


def holds(region, heads, placing, question):
    """True if what the question asks can ever be."""
    if question[0] == "meet":
        return placing[question[2]] in can_live(region, heads, placing, question[1])
    if question[0] == "live":
        return question[2] in can_live(region, heads, placing, question[1])
    return fate_of(region, heads, placing, question[1]) != "never"
