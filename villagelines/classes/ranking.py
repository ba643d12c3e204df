"""The order of the members of a class."""

from villagelines.classes.grouping import class_of
from villagelines.errors import NoSuch


def rank_of(region, heads, placing):
    """The index of the placing among the placings of its class."""
    return class_of(region, heads, placing).index(placing)


def member_at(region, heads, placing, index):
    """The placing of this index in the class of the placing."""
    group = class_of(region, heads, placing)
    if not 0 <= index < len(group):
        raise NoSuch(index, len(group))
    return group[index]
