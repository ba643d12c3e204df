"""What a side answers to what it is told of the other side."""

from villagelines.lots.closing import lots_from
from villagelines.lots.divisions import join_along, singles
from villagelines.region.census import heads_in


def nothing(count):
    """The outside for so many gates in which nobody lives and no gates are joined."""
    return [((position,), 0) for position in range(count)]


def told_at(count, outside):
    """The outside heads at each of so many gates; those of joined gates stand at the first of them."""
    told = [0] * count
    for positions, heads in outside:
        told[positions[0]] += heads
    return told


def lots_under(side, outside):
    """The lots of the side with what it is told of the other side."""
    census = list(side.census)
    for gate, heads in zip(side.gates, told_at(len(side.gates), outside)):
        census[gate] += heads
    joined = [[side.gates[position] for position in positions] for positions, _ in outside]
    # Joined gates are in one block from the beginning, so it does not matter at which of them heads are told.
    return lots_from(side.region, census, join_along(singles(side.region.villages), joined))


def _positions_in(lot, gates):
    """The positions of the gates that are in the lot."""
    return tuple([position for position, gate in enumerate(gates) if gate in lot])


def response(side, outside):
    """The side's lots that contain gates, each told by the positions of its gates and its own heads."""
    pairs = [(_positions_in(lot, side.gates), heads_in(side.census, lot)) for lot in lots_under(side, outside)]
    return sorted([(positions, heads) for positions, heads in pairs if len(positions) > 0])
