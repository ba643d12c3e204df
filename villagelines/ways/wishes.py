"""Wishes: some families want to live in certain villages."""

from villagelines.region.placings import all_placings
from villagelines.ways.papers import paper_of


def _fulfils(placing, wanted):
    """True if each family of the wish lives where it wants to."""
    return all([placing[family] == village for family, village in wanted])


def wish_for(region, heads, placing, wanted):
    """The first placing of the class that fulfils the wish, or the bars before all that would."""
    bars = []
    for goal in all_placings(region.villages, len(heads)):
        if _fulfils(goal, wanted):
            paper = paper_of(region, heads, placing, goal)
            if paper[0] == "way":
                return ("yes", goal)
            bars.append(paper)
    return ("no", bars)
