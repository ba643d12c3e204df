"""Judging papers: a way from start to goal, or a bar that no way crosses."""

from villagelines.errors import BadDivision, BadMove
from villagelines.lots.divisions import place_of, tidy
from villagelines.lots.shut import leak_of
from villagelines.region.walks import walk


def _fault_of_way(region, heads, start, goal, moves):
    """None if the moves lead from start to goal, otherwise the first fault."""
    try:
        end = walk(region, heads, start, moves)
    except BadMove as wrong:
        return (wrong.at, wrong.why)
    if end != goal:
        return (len(moves), "end")
    return None


def _is_division(villages, blocks):
    """True if the blocks are a division just as they stand."""
    try:
        return tidy(villages, blocks) == blocks
    except BadDivision:
        return False


def _is_parted(start, goal, division, family):
    """True if there is such a family and the division parts its two homes."""
    if not 0 <= family < len(start):
        return False
    return place_of(division, start[family]) != place_of(division, goal[family])


def _fault_of_bar(region, heads, start, goal, bar):
    """None if the bar stands between start and goal, otherwise the first fault."""
    _, side, division, family = bar
    if not _is_division(region.villages, division):
        return (0, "division")
    census = region.people_of(heads, start if side == "start" else goal)
    line = leak_of(region, census, division)
    if line is not None:
        return (line, "open")
    if not _is_parted(start, goal, division, family):
        return (family, "family")
    return None


def fault_of_paper(region, heads, start, goal, paper):
    """None if the paper is right, otherwise its first fault."""
    if paper[0] == "way":
        return _fault_of_way(region, heads, start, goal, paper[1])
    return _fault_of_bar(region, heads, start, goal, paper)
