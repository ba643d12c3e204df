"""Finding a turning point by halving."""


def last_passing(low, high, passes):
    """The last number that passes, where low does, high does not, and all that pass come first."""
    while high - low > 1:
        middle = (low + high) // 2
        if passes(middle):
            low = middle
        else:
            high = middle
    return low
