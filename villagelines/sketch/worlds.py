"""The worlds that fit a sketch."""

from villagelines.region.placings import all_rows


def worlds_of(sketch):
    """All worlds `(heads, placing)` that fit, ordered by the placing and then by the heads."""
    counts = [list(range(least, most + 1)) for least, most in sketch.spans]
    for placing in all_rows(sketch.homes):
        for heads in all_rows(counts):
            # Several worlds have this placing, and the reader may change the one that went out.
            yield (heads, list(placing))
