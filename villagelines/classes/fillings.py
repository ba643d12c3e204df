"""Fillings: how a lot can be filled by its families so that it is a lot by itself."""

from villagelines.lots.closing import lot_of, lots_of
from villagelines.region.book import Region
from villagelines.region.census import census_of
from villagelines.region.placings import all_rows


def _within(region, villages):
    """The region with those lines alone whose stops are all among these villages."""
    lines = [line for line in region.lines if all([stop in villages for stop in line[0]])]
    return Region(region.villages, lines)


def fillings(region, heads, villages, families):
    """In how many ways these families, living here alone, can fill these villages so that they are one lot."""
    inner = _within(region, villages)
    living = [heads[family] for family in families]
    homes = all_rows([list(villages)] * len(families))
    lots = [lot_of(inner, census_of(inner, living, placing), villages[0]) for placing in homes]
    return lots.count(list(villages))


def lot_fillings(region, heads, placing):
    """Each lot with its families and the number of its fillings."""
    triples = []
    for lot in lots_of(region, census_of(region, heads, placing)):
        villages = tuple(lot)
        families = tuple([family for family, village in enumerate(placing) if village in villages])
        triples.append((villages, families, fillings(region, heads, villages, families)))
    return triples
