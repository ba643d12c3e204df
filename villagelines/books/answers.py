"""Which lines a region answers: its lots do in every census what the line asks."""

from villagelines.books.censuses import censuses_at
from villagelines.lots.closing import lots_of
from villagelines.lots.divisions import touched_by


def unanswered(region, stops, number):
    """The first census with just enough heads for the line that leaves its stops in several lots, or None."""
    for census in censuses_at(region.villages, stops, number):
        if len(touched_by(lots_of(region, census), stops)) > 1:
            return census
    return None


def answers(region, stops, number):
    """True if all stops are in one lot whenever enough heads for the line live at them."""
    return unanswered(region, stops, number) is None
