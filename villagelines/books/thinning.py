"""Thinning: leaving out lines that the others answer."""

from villagelines.books.answers import answers


def _is_needless(region, index):
    """True if the other lines answer this one."""
    stops, number = region.lines[index]
    return answers(region.without(index), stops, number)


def needless(region):
    """The indexes of the lines that the others answer, ascending."""
    return [index for index in range(len(region.lines)) if _is_needless(region, index)]


def thinned(region):
    """The region without the lines, from the last on, that those still there answer."""
    thin = region
    for index in reversed(range(len(region.lines))):
        if _is_needless(thin, index):
            thin = thin.without(index)
    return thin
