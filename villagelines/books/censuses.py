"""All censuses with a given number of heads."""


def _shares(parts, count):
    """All rows of so many numbers that add up to the count, ascending."""
    if parts == 1:
        return [[count]]
    return [[first, *rest] for first in range(count + 1) for rest in _shares(parts - 1, count - first)]


def _census_at(villages, stops, share):
    """The census with these heads at the stops and none elsewhere."""
    census = [0] * villages
    for stop, many in zip(stops, share):
        census[stop] = many
    return census


def censuses_at(villages, stops, count):
    """All censuses with exactly so many heads at the stops together and none elsewhere, ascending."""
    return [_census_at(villages, stops, share) for share in _shares(len(stops), count)]
