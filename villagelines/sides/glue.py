"""Gluing two sides: their gates of one position become one village."""

from villagelines.errors import BadSide
from villagelines.region.book import Region


def require_same_gates(one, other):
    """None, or the error that tells that the sides have not the same number of gates."""
    if len(one.gates) != len(other.gates):
        raise BadSide("gates")


def _places_of(left, right):
    """The number that each village of the right side has in the glued region."""
    place_at = dict(zip(right.gates, left.gates))
    free = left.region.villages
    for village in range(right.region.villages):
        if village not in place_at:
            place_at[village] = free
            free += 1
    return [place_at[village] for village in range(right.region.villages)]


def _renumbered(line, places):
    """The line with its stops at these places, ascending."""
    stops, number = line
    return (tuple(sorted([places[stop] for stop in stops])), number)


def glued(left, right):
    """The glued region, its census, and the places of the right side's villages in it."""
    require_same_gates(left, right)
    places = _places_of(left, right)
    villages = left.region.villages + right.region.villages - len(left.gates)
    census = list(left.census) + [0] * (villages - left.region.villages)
    for place, heads in zip(places, right.census):
        census[place] += heads
    moved = [_renumbered(line, places) for line in right.region.lines]
    return Region(villages, [*left.region.lines, *moved]), census, places
