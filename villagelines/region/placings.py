"""All placings of some families."""


def all_rows(choices):
    """All rows with one entry from each of these lists, in the order of the lists."""
    rows = [[]]
    for entries in choices:
        rows = [[*row, entry] for row in rows for entry in entries]
    return rows


def all_placings(villages, families):
    """All placings of so many families in so many villages, ascending."""
    return all_rows([list(range(villages))] * families)
