"""What notes do to a world, and in which worlds they can happen.

For each kind of note a function returns the world after it, or None if it cannot happen in the world.
"""

from villagelines.region.census import census_of, running_lines
from villagelines.years.world import World


def _without(by_name, gone):
    """The dict without this name."""
    return {name: by_name[name] for name in by_name if name != gone}


def _come(world, note):
    """A family comes, of a name that is not present."""
    if note.name in world.home_of:
        return None
    heads_of = {**world.heads_of, note.name: note.heads}
    home_of = {**world.home_of, note.name: note.village}
    return World(world.villages, heads_of, home_of, world.line_of)


def _seen(world, note):
    """A family lives in the village."""
    return world if world.home_of.get(note.name) == note.village else None


def _leave(world, note):
    """A family that lives in the village is gone."""
    if _seen(world, note) is None:
        return None
    heads_of = _without(world.heads_of, note.name)
    home_of = _without(world.home_of, note.name)
    return World(world.villages, heads_of, home_of, world.line_of)


def _with_lines(world, line_of):
    """The world with these lines open."""
    return World(world.villages, world.heads_of, world.home_of, line_of)


def _opened(world, note):
    """A line of a name that is not open is opened behind the others."""
    if note.line in world.line_of:
        return None
    return _with_lines(world, {**world.line_of, note.line: (note.stops, note.number)})


def _closed(world, note):
    """An open line is closed."""
    if note.line not in world.line_of:
        return None
    return _with_lines(world, _without(world.line_of, note.line))


def _census(world):
    """The heads in each village of the world."""
    return census_of(world.region, world.heads, world.placing)


def _runs(world, line):
    """True if the line runs, False if it stands, None if it is not open."""
    if line not in world.line_of:
        return None
    return list(world.line_of).index(line) in running_lines(world.region, _census(world))


def _ran(world, note):
    """An open line runs."""
    return world if _runs(world, note.line) is True else None


def _stood(world, note):
    """An open line does not run."""
    return world if _runs(world, note.line) is False else None


def _counted(world, note):
    """Just so many heads live in the village."""
    return world if _census(world)[note.village] == note.heads else None


_AFTER = {
    "come": _come,
    "leave": _leave,
    "seen": _seen,
    "open": _opened,
    "close": _closed,
    "ran": _ran,
    "stood": _stood,
    "counted": _counted,
}


def world_after(world, note):
    """The world after the note, or None if the note cannot happen in this world."""
    after = _AFTER[note.VERB]
    return after(world, note)
