"""The board of a world: its villages, their heads and their lots."""

from villagelines.lots.closing import lots_of
from villagelines.lots.divisions import place_of
from villagelines.region.census import census_of


def board_of(region, heads, placing):
    """The text with a row for each village: the village, its heads, its lot."""
    census = census_of(region, heads, placing)
    lots = lots_of(region, census)
    rows = []
    for village, many in enumerate(census):
        lot = place_of(lots, village)
        rows.append(f"{village:>2}{many:>16}{lot:>3}")
    return "\n".join(rows)
