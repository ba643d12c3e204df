"""Walks: rows of moves, made one by one."""

from villagelines.region.moves import moved_at


def walk(region, heads, placing, moves):
    """The placing after all moves."""
    now = list(placing)
    for at, move in enumerate(moves):
        now = moved_at(region, heads, now, move, at)
    return now


def trail(region, heads, placing, moves):
    """The placing before the first move, then the placing after each move."""
    now = list(placing)
    # A copy goes out each time: the reader may change it before the next move.
    yield list(now)
    for at, move in enumerate(moves):
        now = moved_at(region, heads, now, move, at)
        yield list(now)


def way_back(placing, moves):
    """The moves that lead from the end of the walk to its beginning."""
    now = list(placing)
    back = []
    for family, line, village in moves:
        back.append((family, line, now[family]))
        now[family] = village
    return back[::-1]
