"""The order of divisions: finer ones, meets and merges."""

from villagelines.lots.divisions import join_along, touched_by


def is_finer(one, other):
    """True if each block of the first lies within a block of the second."""
    return all([len(touched_by(other, block)) == 1 for block in one])


def meet_of(one, other):
    """The division whose blocks are what a block of each of the two shares."""
    shared = [[village for village in block if village in there] for block in one for there in other]
    return sorted([block for block in shared if len(block) > 0])


def merge_of(one, other):
    """The finest division that both are finer than."""
    return join_along(one, other)
