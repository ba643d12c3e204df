"""Tables: for each set of villages the least number with which a region answers."""

from villagelines.books.answers import answers
from villagelines.lots.closing import connected_by
from villagelines.lots.divisions import touched_by
from villagelines.region.book import Region
from villagelines.sets import sets_from


def least_number(region, stops):
    """The least number with which the region answers a line of these stops, or None."""
    if len(touched_by(connected_by(region), stops)) > 1:
        return None
    number = 1
    while not answers(region, stops, number):
        number += 1
    return number


def table_of(region):
    """The least number of each set of at least two villages, smaller sets first."""
    return [(stops, least_number(region, stops)) for stops in sets_from(2, region.villages)]


def book_of(villages, rows):
    """The region with a line for each row of the table that has a number."""
    return Region(villages, [(stops, number) for stops, number in rows if number is not None])
