"""Alike sides, and what shows that two sides are not alike."""

from villagelines.least.stairs import staircase
from villagelines.region.book import Region
from villagelines.region.census import heads_in
from villagelines.sides.glue import require_same_gates
from villagelines.sides.response import response, told_at
from villagelines.sides.side import Side


def _steps_at_gate(side):
    """The outside heads at which the response of a side with one gate changes."""
    return [newcomers for newcomers, _, _ in staircase(side.region, side.census, side.gates[0])]


def _outsides_of_one_gate(one, other):
    """The outsides of one gate that are enough to look at, in their order."""
    steps = sorted({step for side in (one, other) for step in _steps_at_gate(side)})
    return [[((0,), heads)] for heads in steps]


def _outsides_of_two_gates(one, other):
    """The outsides of two gates that are enough to look at, in their order."""
    # More outside heads than the greatest number of a line change no response.
    counts = range(max(one.region.greatest, other.region.greatest) + 1)
    parted = sorted([(here + there, here, there) for here in counts for there in counts])
    joined = [[((0, 1), heads)] for heads in counts]
    return [[((0,), here), ((1,), there)] for _, here, there in parted] + joined


def first_difference(one, other):
    """The first outside to which the two sides respond differently, or None."""
    require_same_gates(one, other)
    outsides = _outsides_of_one_gate(one, other) if len(one.gates) == 1 else _outsides_of_two_gates(one, other)
    for outside in outsides:
        if response(one, outside) != response(other, outside):
            return outside
    return None


def _first_uneven(here, there):
    """The positions of the first pair in which the own heads differ, and the greater of the two."""
    pairs = [(positions, (heads, others)) for (positions, heads), (_, others) in zip(here, there) if heads != others]
    positions, told = pairs[0]
    return positions, max(told)


def parting_side(one, other):
    """A third side that shows that the two sides are not alike, or None."""
    outside = first_difference(one, other)
    if outside is None:
        return None
    here, there = response(one, outside), response(other, outside)
    count = len(one.gates)
    told = told_at(count, outside)
    if len(here) != len(there):
        return Side(Region.bare(count), told, tuple(range(count)))
    positions, own = _first_uneven(here, there)
    # The line reaches the one head behind the gates only where the own heads are the greater ones.
    line = ((positions[0], count), own + heads_in(told, positions) + 1)
    joining = [((0, 1), 1)] if len(outside) < count else []
    return Side(Region(count + 1, [*joining, line]), [*told, 1], tuple(range(count)))
