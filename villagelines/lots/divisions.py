"""Divisions of the villages into blocks."""

from villagelines.errors import BadDivision


def tidy(villages, blocks):
    """The division that these blocks make."""
    named = [village for block in blocks for village in block]
    if not all([0 <= village < villages for village in named]):
        raise BadDivision("range")
    if len(set(named)) < len(named):
        raise BadDivision("twice")
    if len(named) < villages:
        raise BadDivision("missing")
    return sorted([sorted(block) for block in blocks if len(block) > 0])


def singles(villages):
    """The division with a block for each village."""
    return [[village] for village in range(villages)]


def place_of(division, village):
    """The index of the block that has the village."""
    return [village in block for block in division].index(True)


def touched_by(division, stops):
    """The indexes of the blocks that the stops touch, ascending."""
    return [at for at, block in enumerate(division) if any([stop in block for stop in stops])]


def villages_at(division, places):
    """The villages of the blocks at these places."""
    return [village for place in places for village in division[place]]


def join_blocks(division, places):
    """The division in which the blocks at these places are one block."""
    joined = sorted(villages_at(division, places))
    rest = [list(block) for at, block in enumerate(division) if at not in places]
    return sorted([joined, *rest])


def join_along(division, groups):
    """The division in which for each group of villages all blocks that it touches are one block."""
    for group in groups:
        division = join_blocks(division, touched_by(division, group))
    return division


def _numberings(villages):
    """For each division the block numbers of its villages, ascending."""
    rows = [[]]
    for _ in range(villages):
        # A village lies in a block begun before it, or begins the next one.
        rows = [[*row, block] for row in rows for block in range(max(row, default=-1) + 2)]
    return rows


def _division_by(numbers):
    """The division in which the villages have these block numbers."""
    blocks = range(max(numbers) + 1)
    return [[village for village, at in enumerate(numbers) if at == block] for block in blocks]


def divisions_of(villages):
    """All divisions, by the block numbers of their villages ascending."""
    for numbers in _numberings(villages):
        yield _division_by(numbers)
