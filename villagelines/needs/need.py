"""Needs: how many people of each kind are enough."""

from villagelines.errors import BadNeed


def _fault_of_row(kinds, row):
    """What is wrong with a row for so many kinds, or None."""
    if len(row) != kinds:
        return "length"
    if any([number < 0 for number in row]):
        return "below"
    if all([number == 0 for number in row]):
        return "nothing"
    return None


def _require_rows(kinds, rows):
    """None, or the error that tells the first fault of the rows."""
    if len(rows) == 0:
        raise BadNeed(-1, "rows")
    for at, row in enumerate(rows):
        why = _fault_of_row(kinds, row)
        if why is not None:
            raise BadNeed(at, why)


def _require_same_kinds(one, other):
    """None, or the error that tells that two needs cannot be put together."""
    if one.kinds != other.kinds:
        raise BadNeed(-1, "kinds")


def _reaches(crowd, row):
    """True if the crowd has at least the row's number of every kind."""
    return all([have >= number for have, number in zip(crowd, row)])


def _meets(crowd, rows):
    """True if the crowd reaches one of the rows."""
    return any([_reaches(crowd, row) for row in rows])


def _normal_form(rows):
    """The rows that reach no other row, ascending, each once."""
    least = []
    # A row comes behind each row that it reaches, so one look back is enough.
    for row in sorted({tuple(given) for given in rows}):
        if not _meets(row, least):
            least.append(row)
    return tuple(least)


def _both(one, other):
    """The least row that reaches both rows."""
    return tuple([max(here, there) for here, there in zip(one, other)])


class Need:
    """A need, met by each crowd that reaches one of its rows."""

    def __init__(self, kinds, rows):
        _require_rows(kinds, rows)
        self.kinds = kinds
        self.least = _normal_form(rows)

    @staticmethod
    def of(kinds, kind, number):
        """The need for at least so many of one kind."""
        return Need(kinds, [tuple([number if at == kind else 0 for at in range(kinds)])])

    def implies(self, other):
        """True if every crowd that meets this need meets the other."""
        return all([_meets(row, other.least) for row in self.least])

    def __call__(self, crowd):
        return _meets(crowd, self.least)

    def __and__(self, other):
        _require_same_kinds(self, other)
        return Need(self.kinds, [_both(row, more) for row in self.least for more in other.least])

    def __or__(self, other):
        _require_same_kinds(self, other)
        return Need(self.kinds, [*self.least, *other.least])

    def __eq__(self, other):
        return isinstance(other, Need) and self.kinds == other.kinds and self.least == other.least
