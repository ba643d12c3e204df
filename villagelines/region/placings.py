"""All placings of some families."""


def all_placings(villages, families):
    """All placings of so many families in so many villages, ascending."""
    placings = [[]]
    for _ in range(families):
        placings = [[*placing, village] for placing in placings for village in range(villages)]
    return placings
