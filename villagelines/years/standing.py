"""What is known after some notes of a diary, and the first note that cannot be."""

from villagelines.errors import CannotBe
from villagelines.years.stories import stories_of


def standing(diary, count=None):
    """The families, their heads, the open lines, the region and the possible classes after so many notes."""
    notes = diary.notes
    stories = stories_of(diary.villages, notes[:count])
    world = stories[0][1]
    classes = [tuple(ended.placing) for _, ended in stories]
    return world.names, world.heads, list(world.line_of), world.region, classes


def first_fault(diary):
    """The index of the first note up to which there is no story, or None."""
    try:
        stories_of(diary.villages, diary.notes)
    except CannotBe as wrong:
        return wrong.at
    return None
