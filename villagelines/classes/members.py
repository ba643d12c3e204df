"""The members of a class."""

from villagelines.classes.grouping import class_of


def members(region, heads, placing):
    """All placings of the class of the placing, ascending."""
    for member in class_of(region, heads, placing):
        yield member


def class_size(region, heads, placing):
    """How many placings the class of the placing has."""
    return len(class_of(region, heads, placing))
