"""Heights: the fewest moves that lead to each placing of a class."""

from villagelines.region.moves import moved, moves_from


def _one_move_on(region, heads, ways, edge):
    """The placings that only one more move reaches, each with the moves that lead there."""
    further = {}
    for placing in edge:
        for move in moves_from(region, heads, placing):
            after = tuple(moved(region, heads, placing, move))
            if after not in ways:
                further[after] = [*ways[placing], move]
    return further


def _ways_from(region, heads, start):
    """A shortest row of moves to each placing of the class, by the placing as a tuple."""
    ways = {tuple(start): []}
    edge = [tuple(start)]
    while len(edge) > 0:
        further = _one_move_on(region, heads, ways, edge)
        edge = list(further)
        for placing in edge:
            ways[placing] = further[placing]
    return ways


def heights_of(region, heads, placing):
    """Each placing of the class with the fewest moves that lead to it, ascending by placing."""
    ways = _ways_from(region, heads, placing)
    return [(reached, len(ways[reached])) for reached in sorted(list(ways))]


def shortest_way(region, heads, start, goal):
    """A shortest row of moves from start to goal, or None."""
    return _ways_from(region, heads, start).get(tuple(goal))


def fewest_moves(region, heads, start, goal):
    """The least number of moves from start to goal, or None."""
    way = shortest_way(region, heads, start, goal)
    return None if way is None else len(way)
