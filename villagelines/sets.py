"""Sets of whole numbers, written as ascending tuples."""


def is_ascending(numbers):
    """True if each number is greater than the number before it."""
    return all([before < after for before, after in zip(numbers, numbers[1:])])


def _sets_of_size(many, size):
    """All sets of this size of the numbers below the given one, ascending."""
    sets = [()]
    for _ in range(size):
        sets = [(*chosen, number) for chosen in sets for number in range(max(chosen, default=-1) + 1, many)]
    return sets


def sets_from(least, many):
    """All sets of at least so many of the numbers below the given one, smaller sets first."""
    return [chosen for size in range(least, many + 1) for chosen in _sets_of_size(many, size)]
