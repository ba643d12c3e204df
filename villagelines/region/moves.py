"""Moves: one family moves along one line that runs."""

from villagelines.errors import BadMove
from villagelines.region.census import running_lines


def fault_of_move(region, heads, placing, move):
    """None if the move can be made, otherwise its first fault."""
    family, line, village = move
    if not 0 <= family < len(placing):
        return "family"
    if not 0 <= line < len(region.lines):
        return "line"
    stops = region.lines[line][0]
    if placing[family] not in stops:
        return "home"
    if village not in stops:
        return "stop"
    if placing[family] == village:
        return "same"
    if not region.is_enough(line, region.people_of(heads, placing), stops):
        return "asleep"
    return None


def moved_at(region, heads, placing, move, at):
    """The placing after a move that stands at this index of its row."""
    why = fault_of_move(region, heads, placing, move)
    if why is not None:
        raise BadMove(at, why)
    family, _, village = move
    after = list(placing)
    after[family] = village
    return after


def moved(region, heads, placing, move):
    """The placing after the move."""
    return moved_at(region, heads, placing, move, 0)


def _stops_from(stops, home):
    """The stops to which a family can move along the line from its home."""
    if home not in stops:
        return []
    return [stop for stop in stops if stop != home]


def moves_from(region, heads, placing):
    """All moves that can be made in the placing, ascending."""
    running = running_lines(region, region.people_of(heads, placing))
    for family, home in enumerate(placing):
        for line in running:
            for village in _stops_from(region.lines[line][0], home):
                yield (family, line, village)
