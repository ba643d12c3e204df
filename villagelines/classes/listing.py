"""All classes of a small world."""

from villagelines.classes.grouping import placings_by_class


def classes_of(region, heads):
    """Each class by its settled placing, with its size, ascending."""
    groups = placings_by_class(region, heads)
    return sorted([(settled, len(group)) for settled, group in groups.items()])


def frozen_count(region, heads):
    """How many classes have one placing."""
    return len([size for _, size in classes_of(region, heads) if size == 1])
