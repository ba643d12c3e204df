"""Spectra: all numbers of heads that a village can have."""

from villagelines.classes.grouping import class_of
from villagelines.region.census import census_of


def spectrum(region, heads, placing, village):
    """The numbers of heads that the village has in some placing of the class, ascending."""
    group = class_of(region, heads, placing)
    return sorted({census_of(region, heads, member)[village] for member in group})
