"""Diaries: notes in the order of their moments."""

from villagelines.errors import BadNote, NoSuch
from villagelines.years.notes import Come, Opened, VillageNote


def _villages_in(note):
    """The villages that the note names."""
    if isinstance(note, VillageNote):
        return [note.village]
    if isinstance(note, Opened):
        return list(note.stops)
    return []


class Diary:
    """The notes of a region with so many villages."""

    def __init__(self, villages):
        self.villages = villages
        self._notes = []

    @classmethod
    def of(cls, villages, *notes):
        """The diary to which these notes are told in this order."""
        diary = cls(villages)
        for note in notes:
            diary.tell(note)
        return diary

    @property
    def notes(self):
        """The notes in order."""
        return tuple(self._notes)

    def tell(self, note):
        """Puts the note behind all notes that are not later, and returns its index."""
        if not all([village < self.villages for village in _villages_in(note)]):
            raise BadNote("village")
        index = len([told for told in self._notes if told.moment <= note.moment])
        self._notes.insert(index, note)
        return index

    def drop(self, index):
        """Takes the note of this index away and returns it."""
        if not 0 <= index < len(self._notes):
            raise NoSuch(index, len(self._notes))
        return self._notes.pop(index)

    def __len__(self):
        return len(self._notes)


def merged(villages, *diaries):
    """The diary to which the notes of these diaries are told, one diary after the other."""
    notes = [note for diary in diaries for note in diary.notes]
    return Diary.of(villages, *notes)


def started(villages, **families):
    """The diary in which these families `NAME=(heads, village)` come at moment 0."""
    diary = Diary(villages)
    for name, (heads, village) in families.items():
        diary.tell(Come(0, name, heads, village))
    return diary
