"""Papers in wide regions.

A wide region tells what its people are and when they are enough for a line, just as a region does;
so the papers of regions serve here, too.
"""

from villagelines.ways.judge import fault_of_paper
from villagelines.ways.papers import paper_of


def wide_paper(region, families, start, goal):
    """A way from start to goal if there is one, otherwise the bar."""
    return paper_of(region, families, start, goal)


def fault_of_wide_paper(region, families, start, goal, paper):
    """None if the paper is right, otherwise its first fault."""
    return fault_of_paper(region, families, start, goal, paper)
