"""Sides for the tests, and what they do, found by joining sets of villages."""

from itertools import product

from villagelines.region.book import Region
from villagelines.sides.side import Side

LINES = [
    (1, []),
    (2, []),
    (2, [((0, 1), 1)]),
    (2, [((0, 1), 3)]),
    (3, []),
    (3, [((0, 1), 2), ((1, 2), 3)]),
    (3, [((0, 1, 2), 2)]),
    (3, [((0, 2), 4), ((0, 1), 1)]),
]
CENSUSES = {1: [[0], [2]], 2: [[0, 0], [1, 2], [2, 0]], 3: [[0, 0, 0], [1, 0, 2], [0, 2, 1], [3, 1, 0]]}
GATES = {
    1: {1: [(0,)], 2: [(0,), (1,)], 3: [(0,), (1,), (2,)]},
    2: {1: [], 2: [(0, 1), (1, 0)], 3: [(0, 1), (2, 0), (1, 2)]},
}


def sides_with(count):
    """Small sides with so many gates."""
    return [
        Side(Region(villages, lines), census, gates)
        for villages, lines in LINES
        for census, gates in product(CENSUSES[villages], GATES[count][villages])
    ]


ONE_GATE = sides_with(1)
TWO_GATES = sides_with(2)
# Two sides that are as large as sides can be, with two gates each.
LARGE = (
    Side(Region(4, [((0, 1), 4), ((1, 2), 7), ((2, 3), 9), ((0, 1, 2, 3), 30)]), [1, 2, 1, 3], (3, 0)),
    Side(Region(4, [((0, 3), 8), ((1, 2), 3), ((1, 3), 6), ((0, 1, 2), 12)]), [4, 0, 2, 1], (1, 2)),
)


def outsides_to(count, most):
    """All outsides of so many gates with heads up to the most, in the order of the document."""
    heads = range(most + 1)
    if count == 1:
        return [[((0,), here)] for here in heads]
    parted = sorted(product(heads, repeat=2), key=lambda pair: (sum(pair), pair))
    return [[((0,), here), ((1,), there)] for here, there in parted] + [[((0, 1), here)] for here in heads]


def blocks_under(side, outside):
    """The lots of the side under the outside, sets in any order, by the words of the document."""
    told = [([side.gates[position] for position in positions], heads) for positions, heads in outside]
    joined = [set(gates) for gates, _ in told]
    blocks = joined + [{village} for village in range(side.region.villages) if village not in set().union(*joined)]

    def heads_of(block):
        return sum(side.census[village] for village in block) + sum(heads for gates, heads in told if block & set(gates))

    while True:
        for stops, number in side.region.lines:
            touched = [block for block in blocks if block & set(stops)]
            if len(touched) > 1 and sum(heads_of(block) for block in touched) >= number:
                blocks = [block for block in blocks if block not in touched] + [set().union(*touched)]
                break
        else:
            return blocks


def response_by_definition(side, outside):
    """The response of the side, by the words of the document."""
    pairs = []
    for block in blocks_under(side, outside):
        positions = tuple(at for at, gate in enumerate(side.gates) if gate in block)
        if positions:
            pairs.append((positions, sum(side.census[village] for village in block)))
    return sorted(pairs)
