"""Gathering a lot: all its families come to live in one village.

A hop `(line, source, target)` takes all people of the source along the line to the target.
"""

from villagelines.lots.closing import joins_of, lot_of


def _one_hop_on(lines, joined, hops_to):
    """The villages one hop on from those in the dict, each with the hops that lead there."""
    return {
        stop: [*hops, (line, village, stop)]
        for village, hops in hops_to.items()
        for line in joined if village in lines[line][0]
        for stop in lines[line][0]
    }


def _nearest(lines, joined, home, villages):
    """The nearest of the villages from home along joined lines, and the hops that lead there."""
    hops_to = {home: []}
    while not any([village in hops_to for village in villages]):
        further = _one_hop_on(lines, joined, hops_to)
        # What was reached before keeps its hops, which are fewer.
        hops_to = {**further, **hops_to}
    end = [village for village in villages if village in hops_to][0]
    return end, hops_to[end]


def _hops_of_join(lines, joined, line, seats):
    """The hops that bring the people of the blocks that join, a seat for each, to the first stop."""
    stops = lines[line][0]
    nearer, along = [], []
    for seat in seats:
        end, hops = _nearest(lines, joined, seat, stops)
        nearer = nearer + hops
        if end != stops[0]:
            along.append((line, end, stops[0]))
    # The line is sure to run only when all these people live at its stops.
    return nearer + along


def _hops_to(region, joins, village):
    """The hops that bring all people of the lot that these joins make to a village of it."""
    # While blocks are joined, all people of a block are together: here for each village the seat of its people.
    seat_of = list(range(region.villages))
    hops = []
    for at, line in enumerate(joins):
        stops = region.lines[line][0]
        seats = sorted({seat_of[stop] for stop in stops})
        hops = hops + _hops_of_join(region.lines, joins[:at], line, seats)
        seat_of = [stops[0] if seat in seats else seat for seat in seat_of]
    return hops + _nearest(region.lines, joins, seat_of[village], [village])[1]


def _moves_by(hops, placing):
    """The moves of the families from their placing by these hops."""
    now = list(placing)
    moves = []
    for line, source, target in hops:
        families = [family for family, village in enumerate(now) if village == source]
        for family in families:
            moves.append((family, line, target))
            now[family] = target
    return moves


def gathering(region, heads, placing, village):
    """The moves after which every family of the village's lot lives in the village."""
    people = region.people_of(heads, placing)
    lot = lot_of(region, people, village)
    joins = [line for line in joins_of(region, people) if region.lines[line][0][0] in lot]
    return _moves_by(_hops_to(region, joins, village), placing)
