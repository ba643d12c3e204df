"""Notes: what is seen of families, villages and lines at a moment."""

from villagelines.errors import BadNote
from villagelines.sets import is_ascending
from villagelines.words import is_name


def _are_stops(stops):
    """True if these can be the stops of a line, in whatever region."""
    return len(stops) >= 2 and stops[0] >= 0 and is_ascending(stops)


def _require_moment(moment):
    """None, or the error that tells that there is no such moment."""
    if moment < 0:
        raise BadNote("moment")


class Note:
    """A note of a moment."""

    def __init__(self, moment):
        _require_moment(moment)
        self.moment = moment

    def words(self):
        """The words of the text."""
        return ["at", str(self.moment)]

    def text(self):
        """The text of the note."""
        return " ".join(self.words())

    def __eq__(self, other):
        return isinstance(other, Note) and self.text() == other.text()


class FamilyNote(Note):
    """A note that names a family."""

    def __init__(self, moment, name):
        Note.__init__(self, moment)
        if not is_name(name):
            raise BadNote("name")
        self.name = name


class VillageNote(Note):
    """A note that names a village."""

    def __init__(self, moment, village):
        Note.__init__(self, moment)
        if village < 0:
            raise BadNote("village")
        self.village = village


class LineNote(Note):
    """A note that names a line."""

    def __init__(self, moment, line):
        Note.__init__(self, moment)
        if not is_name(line):
            raise BadNote("line")
        self.line = line


class Come(FamilyNote, VillageNote):
    """A family comes to live in a village."""

    VERB = "come"

    def __init__(self, moment, name, heads, village):
        FamilyNote.__init__(self, moment, name)
        if heads < 1:
            raise BadNote("heads")
        self.heads = heads
        VillageNote.__init__(self, moment, village)

    def words(self):
        """The words of the text."""
        return super().words() + [self.VERB, self.name, str(self.heads), "in", str(self.village)]


class Leave(FamilyNote, VillageNote):
    """A family leaves from a village."""

    VERB = "leave"

    def __init__(self, moment, name, village):
        FamilyNote.__init__(self, moment, name)
        VillageNote.__init__(self, moment, village)

    def words(self):
        """The words of the text."""
        return super().words() + [self.VERB, self.name, "from", str(self.village)]


class Seen(FamilyNote, VillageNote):
    """A family is seen to live in a village."""

    VERB = "seen"

    def __init__(self, moment, name, village):
        FamilyNote.__init__(self, moment, name)
        VillageNote.__init__(self, moment, village)

    def words(self):
        """The words of the text."""
        return super().words() + [self.VERB, self.name, "in", str(self.village)]


class Opened(LineNote):
    """A line is opened."""

    VERB = "open"

    def __init__(self, moment, line, number, stops):
        LineNote.__init__(self, moment, line)
        if number < 1:
            raise BadNote("number")
        if not _are_stops(stops):
            raise BadNote("stops")
        self.number = number
        self.stops = tuple(stops)

    def words(self):
        """The words of the text."""
        stops = [str(stop) for stop in self.stops]
        return super().words() + [self.VERB, self.line, str(self.number), "with"] + stops


class Closed(LineNote):
    """A line is closed."""

    VERB = "close"

    def words(self):
        """The words of the text."""
        return super().words() + [self.VERB, self.line]


class Ran(LineNote):
    """A line is seen to run."""

    VERB = "ran"

    def words(self):
        """The words of the text."""
        return super().words() + [self.VERB, self.line]


class Stood(LineNote):
    """A line is seen not to run."""

    VERB = "stood"

    def words(self):
        """The words of the text."""
        return super().words() + [self.VERB, self.line]


class Counted(VillageNote):
    """The heads that live in a village are counted."""

    VERB = "counted"

    def __init__(self, moment, heads, village):
        # The base looks at moment and village at once, but heads stand between the two.
        _require_moment(moment)
        if heads < 0:
            raise BadNote("heads")
        VillageNote.__init__(self, moment, village)
        self.heads = heads

    def words(self):
        """The words of the text."""
        return super().words() + [self.VERB, str(self.heads), "in", str(self.village)]
