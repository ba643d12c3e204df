"""All errors of the program."""


class VillageError(ValueError):
    """The base of all errors of the program."""


class BadRegion(VillageError):
    """A region cannot be made: the line with this index is wrong, or -1 for the whole."""

    def __init__(self, line, why):
        self.line = line
        self.why = why


class BadPlacing(VillageError):
    """Heads and placing do not fit: this family is wrong, or -1 for the whole."""

    def __init__(self, family, why):
        self.family = family
        self.why = why


class BadMove(VillageError):
    """The move with this index in its row cannot be made."""

    def __init__(self, at, why):
        self.at = at
        self.why = why


class BadText(VillageError):
    """The row with this index of a text has not its form."""

    def __init__(self, row, why):
        self.row = row
        self.why = why


class BadDivision(VillageError):
    """Some blocks are no division of the villages."""

    def __init__(self, why):
        self.why = why


class BadSide(VillageError):
    """A side cannot be made, or two sides cannot be glued."""

    def __init__(self, why):
        self.why = why


class NoSuch(VillageError):
    """There is nothing of this index among so many."""

    def __init__(self, index, size):
        self.index = index
        self.size = size


class BadSketch(VillageError):
    """A sketch cannot be made: this family is wrong, or -1 for the whole."""

    def __init__(self, family, why):
        self.family = family
        self.why = why


class BadNeed(VillageError):
    """A need cannot be made or read: the row or word of this index is wrong."""

    def __init__(self, at, why):
        self.at = at
        self.why = why


class BadNote(VillageError):
    """A note cannot be made, or a diary cannot take it."""

    def __init__(self, why):
        self.why = why


class CannotBe(VillageError):
    """A diary has no story up to and including the note of this index."""

    def __init__(self, at):
        self.at = at


class Unknown(VillageError):
    """A question names what is not there."""

    def __init__(self, word):
        self.word = word


class Full(VillageError):
    """A desk takes no more than so many notes."""

    def __init__(self, most):
        self.most = most


class NothingLeft(VillageError):
    """There is nothing to undo or to redo."""

    def __init__(self, word):
        self.word = word


class RowRefused(VillageError):
    """The row of this index in a run was refused."""

    def __init__(self, row, word):
        self.row = row
        self.word = word


class BadLimit(VillageError):
    """A desk cannot have this limit."""

    def __init__(self, value):
        self.value = value
