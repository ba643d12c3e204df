"""Divisions that are shut: no line leaks from one block into another."""

from villagelines.lots.divisions import divisions_of, touched_by, villages_at


def leak_of(region, census, division):
    """The index of the first line that leaks, or None."""
    for line, (stops, _) in enumerate(region.lines):
        places = touched_by(division, stops)
        if len(places) > 1 and region.is_enough(line, census, villages_at(division, places)):
            return line
    return None


def is_shut(region, census, division):
    """True if no line leaks."""
    return leak_of(region, census, division) is None


def _takes_newcomers(stops, division, growing):
    """True if the stops touch several blocks, one of the growing ones among them."""
    places = touched_by(division, stops)
    return len(places) > 1 and any([place in growing for place in places])


def is_shut_for_all(region, census, division, villages):
    """True if the division stays shut however many heads are added at these villages."""
    growing = touched_by(division, villages)
    if any([_takes_newcomers(stops, division, growing) for stops, _ in region.lines]):
        return False
    return is_shut(region, census, division)


def shut_divisions(region, census):
    """All divisions that are shut for the census, in the order of all divisions."""
    for division in divisions_of(region.villages):
        if is_shut(region, census, division):
            yield division
