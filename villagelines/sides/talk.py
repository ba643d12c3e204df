"""Two sides talk: each responds to the other until nothing new is said."""

from villagelines.lots.divisions import join_along, singles
from villagelines.sides.glue import glued, require_same_gates
from villagelines.sides.response import lots_under, nothing, response


def talk(left, right):
    """The messages of the two sides in turn, the left side's first."""
    require_same_gates(left, right)
    first = response(left, nothing(len(left.gates)))
    messages = [first, response(right, first)]
    further = response(left, messages[-1])
    while further != messages[-2]:
        messages.append(further)
        listening = left if len(messages) % 2 == 0 else right
        further = response(listening, messages[-1])
    return messages


def _last_of_each(messages):
    """The last message of the left side and the last of the right side."""
    before, last = messages[-2:]
    return (before, last) if len(messages) % 2 == 0 else (last, before)


def glued_lots(left, right):
    """The lots of the glued region, as they follow from the last two messages."""
    of_left, of_right = _last_of_each(talk(left, right))
    region, _, places = glued(left, right)
    here = lots_under(left, of_right)
    there = [[places[village] for village in lot] for lot in lots_under(right, of_left)]
    return join_along(singles(region.villages), here + there)
