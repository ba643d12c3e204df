"""Judging rows of joins."""

from villagelines.lots.closing import joined_by
from villagelines.lots.divisions import singles, touched_by, villages_at
from villagelines.lots.shut import is_shut


def _fault_of_join(region, census, division, line):
    """Why the line cannot join blocks of the division, or None."""
    if not 0 <= line < len(region.lines):
        return "line"
    places = touched_by(division, region.lines[line][0])
    if len(places) == 1:
        return "one"
    if not region.is_enough(line, census, villages_at(division, places)):
        return "few"
    return None


def fault_of_joins(region, census, row):
    """None if the row of joins is right for the census, otherwise its first fault."""
    division = singles(region.villages)
    for at, line in enumerate(row):
        why = _fault_of_join(region, census, division, line)
        if why is not None:
            return (at, why)
        division = joined_by(region, division, line)
    if not is_shut(region, census, division):
        return (len(row), "more")
    return None
