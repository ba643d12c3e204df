"""Censuses: how many heads live in each village, and which lines run by them."""

from villagelines.errors import BadPlacing


def census_of(region, heads, placing):
    """The heads that live in each village of the region."""
    census = [0] * region.villages
    for many, village in zip(heads, placing):
        census[village] += many
    return census


def heads_in(census, villages):
    """The heads that live in these villages together."""
    return sum([census[village] for village in villages])


def running_lines(region, census):
    """The indexes of the lines that run, ascending."""
    return [at for at, (stops, _) in enumerate(region.lines) if region.is_enough(at, census, stops)]


def require_world(region, heads, placing):
    """None, or the error that tells why heads and placing do not fit the region."""
    if len(heads) != len(placing):
        raise BadPlacing(-1, "length")
    for family, (many, village) in enumerate(zip(heads, placing)):
        if many < 1:
            raise BadPlacing(family, "heads")
        if not 0 <= village < region.villages:
            raise BadPlacing(family, "village")
