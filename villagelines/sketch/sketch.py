"""Sketches: the possible homes of each family, and the span of its heads."""

from villagelines.errors import BadSketch
from villagelines.sets import is_ascending


def _fault_of_family(homes, span):
    """What is wrong with the homes and the span of a family, or None."""
    if len(homes) == 0 or homes[0] < 0 or not is_ascending(homes):
        return "homes"
    least, most = span
    if least < 1 or most < least:
        return "span"
    return None


def _require_sketch(homes, spans):
    """None, or the error that tells the first fault of a sketch."""
    if len(homes) != len(spans):
        raise BadSketch(-1, "length")
    for family, (known, span) in enumerate(zip(homes, spans)):
        why = _fault_of_family(known, span)
        if why is not None:
            raise BadSketch(family, why)


def _replaced(row, at, entry):
    """The row with another entry at this place."""
    changed = list(row)
    changed[at] = entry
    return changed


class Sketch:
    """Homes `(village, ..)` and a span `(least, most)` of heads for each family."""

    def __init__(self, homes, spans):
        _require_sketch(homes, spans)
        self.homes = tuple(homes)
        self.spans = tuple(spans)

    @property
    def many(self):
        """The number of worlds that fit."""
        count = 1
        for homes, (least, most) in zip(self.homes, self.spans):
            count = count * len(homes) * (most - least + 1)
        return count

    def narrowed(self, family, *, homes=None, least=None, most=None):
        """The sketch in which this family has only these homes left, and heads within these bounds."""
        kept = self.homes[family]
        if homes is not None:
            kept = tuple([home for home in kept if home in homes])
        low, high = self.spans[family]
        if least is not None:
            low = max(low, least)
        if most is not None:
            high = min(high, most)
        return Sketch(_replaced(self.homes, family, kept), _replaced(self.spans, family, (low, high)))
