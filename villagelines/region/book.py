"""Regions: a number of villages and the lines between them."""

from villagelines.errors import BadRegion
from villagelines.region.census import census_of, heads_in
from villagelines.sets import is_ascending


def require_villages(villages):
    """None, or the error that tells that there is no village."""
    if villages < 1:
        raise BadRegion(-1, "villages")


def require_stops(villages, line, stops):
    """None, or the error that tells what is wrong with the stops of this line."""
    if len(stops) < 2:
        raise BadRegion(line, "stops")
    if not all([0 <= stop < villages for stop in stops]):
        raise BadRegion(line, "range")
    if not is_ascending(stops):
        raise BadRegion(line, "order")


def _require_region(villages, lines):
    """None, or the error that tells the first fault of a region."""
    require_villages(villages)
    for line, (stops, number) in enumerate(lines):
        require_stops(villages, line, stops)
        if number < 1:
            raise BadRegion(line, "number")


class Region:
    """A number of villages and a row of lines `(stops, number)`."""

    def __init__(self, villages, lines):
        _require_region(villages, lines)
        self.villages = villages
        self.lines = tuple(lines)

    @classmethod
    def bare(cls, villages):
        """The region without lines."""
        return cls(villages, [])

    @property
    def greatest(self):
        """The greatest number of a line, 0 without lines."""
        return max([line[1] for line in self.lines], default=0)

    def people_of(self, heads, placing):
        """The census of the placing."""
        return census_of(self, heads, placing)

    def is_enough(self, line, census, villages):
        """True if the people of these villages are enough for the line of this index."""
        return heads_in(census, villages) >= self.lines[line][1]

    def with_line(self, stops, number):
        """The region with one more line behind the others."""
        return Region(self.villages, [*self.lines, (stops, number)])

    def without(self, index):
        """The region without the line of this index."""
        if not 0 <= index < len(self.lines):
            raise BadRegion(index, "index")
        return Region(self.villages, [*self.lines[:index], *self.lines[index + 1:]])

    def __len__(self):
        return len(self.lines)

    def __iter__(self):
        return iter(self.lines)

    def __contains__(self, line):
        return line in self.lines

    def __add__(self, other):
        if self.villages != other.villages:
            raise BadRegion(-1, "villages")
        return Region(self.villages, [*self.lines, *other.lines])

    def __eq__(self, other):
        return isinstance(other, Region) and self.villages == other.villages and self.lines == other.lines
