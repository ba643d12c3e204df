"""Wide regions: a line runs while the people at its stops meet its need."""

from villagelines.errors import BadRegion
from villagelines.lots.closing import lots_of
from villagelines.lots.shut import leak_of
from villagelines.needs.need import Need
from villagelines.region.book import require_stops, require_villages


def _require_wide_region(villages, kinds, lines):
    """None, or the error that tells the first fault of a wide region."""
    require_villages(villages)
    for line, (stops, need) in enumerate(lines):
        require_stops(villages, line, stops)
        if need.kinds != kinds:
            raise BadRegion(line, "kinds")


def _added(kinds, crowds):
    """The crowds added up kind by kind."""
    return tuple([sum([crowd[kind] for crowd in crowds]) for kind in range(kinds)])


class WideRegion:
    """A number of villages and a row of lines `(stops, need)`."""

    def __init__(self, villages, kinds, lines):
        _require_wide_region(villages, kinds, lines)
        self.villages = villages
        self.kinds = kinds
        self.lines = tuple(lines)

    def people_of(self, families, placing):
        """The crowds of the placing, one for each village."""
        return crowds_of(self, families, placing)

    def is_enough(self, line, crowds, villages):
        """True if the people of these villages are enough for the line of this index."""
        need = self.lines[line][1]
        return need(_added(self.kinds, [crowds[village] for village in villages]))


def widened(region):
    """The wide region with one kind in which each number is the need for so many."""
    return WideRegion(region.villages, 1, [(stops, Need.of(1, 0, number)) for stops, number in region.lines])


def _crowd_in(kinds, families, placing, village):
    """The families that live in the village, added up."""
    return _added(kinds, [family for family, home in zip(families, placing) if home == village])


def crowds_of(region, families, placing):
    """The crowd that lives in each village."""
    return [_crowd_in(region.kinds, families, placing, village) for village in range(region.villages)]


def wide_lots(region, crowds):
    """The lots of the crowds, a division."""
    return lots_of(region, crowds)


def wide_leak(region, crowds, division):
    """The index of the first line that leaks, or None."""
    return leak_of(region, crowds, division)
