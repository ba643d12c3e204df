"""Histories: where all families live at each note of a diary."""

from villagelines.lots.settling import same_class
from villagelines.years.happening import world_after
from villagelines.years.stories import history_from, stories_of
from villagelines.years.world import empty_world


def history_of(diary):
    """A history of the diary."""
    past, last = stories_of(diary.villages, diary.notes)[0]
    return history_from(past, last)


def _fault_of_entry(left, entry):
    """What is wrong with an entry behind the world that the note before it leaves, or None."""
    placing = [village for _, village in entry]
    if [name for name, _ in entry] != left.names:
        return "names"
    if not all([0 <= village < left.villages for village in placing]):
        return "village"
    if not same_class(left.region, left.heads, left.placing, placing):
        return "apart"
    return None


def fault_of_history(diary, history):
    """None if the history fits the diary, otherwise its first fault."""
    notes = diary.notes
    if len(history) != len(notes) + 1:
        return (0, "length")
    left = empty_world(diary.villages)
    for at, entry in enumerate(history):
        why = _fault_of_entry(left, entry)
        if why is not None:
            return (at, why)
        if at < len(notes):
            left = world_after(left.placed([village for _, village in entry]), notes[at])
            if left is None:
                return (at, "note")
    return None
