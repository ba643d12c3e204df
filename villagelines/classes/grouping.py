"""All placings of a small world, class by class."""

from villagelines.lots.settling import settled_placing
from villagelines.region.placings import all_placings


def placings_by_class(region, heads):
    """For each settled placing, as a tuple, all placings of its class, ascending."""
    groups = {}
    for placing in all_placings(region.villages, len(heads)):
        settled = tuple(settled_placing(region, heads, placing))
        groups.setdefault(settled, []).append(placing)
    return groups


def class_of(region, heads, placing):
    """All placings of the class of the placing, ascending."""
    settled = tuple(settled_placing(region, heads, placing))
    return placings_by_class(region, heads)[settled]
