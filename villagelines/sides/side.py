"""Sides: a region with a census and one or two gates."""

from villagelines.errors import BadSide


def _are_gates(villages, gates):
    """True if these are one or two different villages."""
    if len(gates) not in (1, 2) or len(set(gates)) < len(gates):
        return False
    return all([0 <= gate < villages for gate in gates])


def _fault_of_side(region, census, gates):
    """What is wrong with a side, or None."""
    if len(census) != region.villages:
        return "census"
    if any([many < 0 for many in census]):
        return "heads"
    if not _are_gates(region.villages, gates):
        return "gates"
    return None


class Side:
    """A region with a census, which other sides can be joined to at its gates."""

    def __init__(self, region, census, gates):
        why = _fault_of_side(region, census, gates)
        if why is not None:
            raise BadSide(why)
        self.region = region
        self.census = tuple(census)
        self.gates = tuple(gates)
