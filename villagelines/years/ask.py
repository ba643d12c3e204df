"""Questions about what is after the last note of a diary."""

from villagelines.errors import Unknown
from villagelines.least.newcomers import least_newcomers
from villagelines.region.census import census_of, running_lines
from villagelines.ways.ever import holds
from villagelines.years.stories import history_from, placings_after, stories_of


def _index_of(names, name):
    """The index of the name, or the error that tells that it is not there."""
    if name not in names:
        raise Unknown(name)
    return names.index(name)


def _numbered(world, question):
    """The question with indexes in place of the names."""
    kind, name = question[:2]
    if kind == "run":
        return ("run", _index_of(list(world.line_of), name))
    if kind == "live":
        return ("live", _index_of(world.names, name), question[2])
    return ("meet", _index_of(world.names, name), _index_of(world.names, question[2]))


def _shows(world, placing, question):
    """True if the placing itself is a yes to the question."""
    kind, index = question[:2]
    if kind == "run":
        return index in running_lines(world.region, census_of(world.region, world.heads, placing))
    if kind == "live":
        return placing[index] == question[2]
    return placing[index] == placing[question[2]]


def _yes_history(past, world, group, question):
    """The history of a story that ends in a placing of its class which shows the yes."""
    showing = [placing for placing in group if _shows(world, placing, question)]
    return history_from(past, world.placed(showing[0]))


def ask(diary, question):
    """Whether the question holds in all classes, in none, or in some, with a history for each answer."""
    stories = stories_of(diary.villages, diary.notes)
    asked = _numbered(stories[0][1], question)
    yes, no = [], []
    for (past, world), group in zip(stories, placings_after(stories)):
        if holds(world.region, world.heads, world.placing, asked):
            yes.append(_yes_history(past, world, group, asked))
        else:
            no.append(history_from(past, world))
    if len(no) == 0:
        return ("yes",)
    if len(yes) == 0:
        return ("no",)
    return ("open", yes[0], no[0])


def newcomers_now(diary, village, name, other):
    """The least newcomers at the village with which the families come into one lot, for all classes."""
    stories = stories_of(diary.villages, diary.notes)
    names = stories[0][1].names
    here, there = _index_of(names, name), _index_of(names, other)
    counts = []
    for _, world in stories:
        census = census_of(world.region, world.heads, world.placing)
        counts.append(least_newcomers(world.region, census, village, world.placing[here], world.placing[there]))
    enough = sorted({count for count in counts if count is not None})
    return enough + [None] if None in counts else enough


def possible_placings(diary):
    """All placings that can be after the last note, ascending."""
    groups = placings_after(stories_of(diary.villages, diary.notes))
    return sorted([placing for group in groups for placing in group])
