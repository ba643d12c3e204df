"""Stories of a diary: which classes they can end in, and one story for each class.

A story is a pair: the entries of a history, one for each note that happened, and the settled world after them.
"""

from villagelines.classes.grouping import placings_by_class
from villagelines.errors import CannotBe
from villagelines.years.happening import world_after
from villagelines.years.world import empty_world


def placings_after(stories):
    """For each story all placings of the class in which it ends, ascending."""
    # The families and the lines follow from the notes alone, so all stories have the same.
    world = stories[0][1]
    groups = placings_by_class(world.region, world.heads)
    return [groups[tuple(ended.placing)] for _, ended in stories]


def _continued(stories, note):
    """One story for each class in which the stories can end after one more note."""
    story_by = {}
    for (past, world), group in zip(stories, placings_after(stories)):
        for placing in group:
            here = world.placed(placing)
            after = world_after(here, note)
            if after is not None:
                ended = after.settled()
                story_by.setdefault(tuple(ended.placing), ([*past, here.entry()], ended))
    return [story_by[settled] for settled in sorted(list(story_by))]


def stories_of(villages, notes):
    """One story of the notes for each class in which their stories can end, ascending by the settled placing."""
    stories = [([], empty_world(villages))]
    for at, note in enumerate(notes):
        stories = _continued(stories, note)
        if len(stories) == 0:
            raise CannotBe(at)
    return stories


def history_from(past, last):
    """The history with these entries and at last this world."""
    # Several stories can have entries in common, so they are copied.
    return [list(entry) for entry in past] + [last.entry()]
