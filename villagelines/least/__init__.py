"""Least changes: the fewest newcomers, and how far the numbers of the lines may move."""
