"""Papers: a way from one placing to another, or the bar between them."""

from villagelines.lots.closing import lots_of
from villagelines.lots.divisions import place_of
from villagelines.region.walks import way_back
from villagelines.ways.gathering import gathering


def _first_parted(division, start, goal):
    """The first family that lives in different blocks in the two placings, or None."""
    for family, (here, there) in enumerate(zip(start, goal)):
        if place_of(division, here) != place_of(division, there):
            return family
    return None


def _gathering_of_all(region, heads, placing, lots):
    """The moves that gather each lot at its first village."""
    return [move for lot in lots for move in gathering(region, heads, placing, lot[0])]


def _way_between(region, heads, start, goal, lots):
    """The moves from start to goal, which have the same lots with the same families."""
    if start == goal:
        return []
    there = _gathering_of_all(region, heads, start, lots)
    back = _gathering_of_all(region, heads, goal, lots)
    return there + way_back(goal, back)


def paper_of(region, heads, start, goal):
    """A way from start to goal if there is one, otherwise the bar."""
    here = lots_of(region, region.people_of(heads, start))
    there = lots_of(region, region.people_of(heads, goal))
    for side, lots in (("start", here), ("goal", there)):
        family = _first_parted(lots, start, goal)
        if family is not None:
            return ("bar", side, lots, family)
    return ("way", _way_between(region, heads, start, goal, here))
