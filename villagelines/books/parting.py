"""What parts two regions: a line of the one that the other does not answer."""

from villagelines.books.answers import unanswered
from villagelines.errors import BadRegion


def _partings(side, asking, answering):
    """For each line of the one region that the other does not answer: the side, the line, the census."""
    partings = []
    for line in asking.lines:
        stops, number = line
        census = unanswered(answering, stops, number)
        if census is not None:
            partings.append((side, line, census))
    return partings


def parting_of(one, other):
    """The line with the least number that parts the regions, with its side and a census, or None."""
    if one.villages != other.villages:
        raise BadRegion(-1, "villages")
    partings = _partings("first", one, other) + _partings("second", other, one)
    if len(partings) == 0:
        return None
    # Of equal numbers the first in the row is taken.
    return min(partings, key=lambda parting: parting[1][1])


def alike(*regions):
    """True if all regions have the same lots in every census."""
    return all([parting_of(one, other) is None for one, other in zip(regions, regions[1:])])
