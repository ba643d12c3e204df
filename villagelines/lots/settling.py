"""Settled placings: each family in the first village of its lot."""

from villagelines.lots.closing import lots_of
from villagelines.lots.divisions import place_of
from villagelines.region.census import census_of


def settled_placing(region, heads, placing):
    """The placing in which each family lives in the first village of its lot."""
    lots = lots_of(region, census_of(region, heads, placing))
    return [lots[place_of(lots, village)][0] for village in placing]


def same_class(region, heads, one, other):
    """True if each of the two placings can come of the other."""
    return settled_placing(region, heads, one) == settled_placing(region, heads, other)
