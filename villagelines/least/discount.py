"""The discount: how far all numbers must fall for a way from start to goal."""

from villagelines.least.halving import last_passing
from villagelines.least.slack import raised
from villagelines.lots.settling import same_class
from villagelines.ways.papers import paper_of


def _least_discount(region, heads, start, goal):
    """The least discount with which goal comes of start, where there is one."""
    if same_class(region, heads, start, goal):
        return 0
    return 1 + last_passing(0, region.greatest, lambda by: not same_class(raised(region, -by), heads, start, goal))


def discount_for(region, heads, start, goal):
    """The least discount, a way with it and the bar with one less; or the bar that always stands."""
    lowest = paper_of(raised(region, -region.greatest), heads, start, goal)
    if lowest[0] == "bar":
        return ("never", lowest)
    least = _least_discount(region, heads, start, goal)
    way = paper_of(raised(region, -least), heads, start, goal)[1]
    bar = paper_of(raised(region, 1 - least), heads, start, goal) if least > 0 else None
    return ("discount", least, way, bar)
