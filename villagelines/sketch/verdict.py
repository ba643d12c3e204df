"""The verdict of a question about a half-known world."""

from villagelines.region.placings import all_rows
from villagelines.ways.ever import holds


def verdict(region, sketch, question):
    """Whether the question holds in every world that fits, in none, or in some, with a world for each answer."""
    least = [low for low, _ in sketch.spans]
    most = [high for _, high in sketch.spans]
    # More heads never take a yes away, so the greatest heads find each yes and the least find each no.
    placings = all_rows(sketch.homes)
    yes = [placing for placing in placings if holds(region, most, placing, question)]
    no = [placing for placing in placings if not holds(region, least, placing, question)]
    if len(no) == 0:
        return ("yes",)
    if len(yes) == 0:
        return ("no",)
    # One placing can stand in both worlds, and each has a list of its own.
    return ("open", (most, yes[0]), (least, list(no[0])))
