"""The texts of regions and of rows of moves."""

from villagelines.errors import BadText
from villagelines.region.book import Region
from villagelines.words import are_numbers, rows_of


def _joined(numbers):
    """The numbers written out, with a space between two."""
    return " ".join([str(number) for number in numbers])


def write_region(region):
    """The text of the region."""
    rows = [f"villages {region.villages}"]
    for stops, number in region.lines:
        words = _joined([number, *stops])
        rows.append(f"line {words}")
    return "\n".join(rows)


def write_moves(moves):
    """The text of the row of moves."""
    return "\n".join([_joined(move) for move in moves])


def _is_region_row(at, words):
    """True if the words have the form of this row in the text of a region."""
    if at == 0:
        return len(words) == 2 and words[0] == "villages" and are_numbers(words[1:])
    return len(words) > 1 and words[0] == "line" and are_numbers(words[1:])


def _line_of(words):
    """The line that the words of a row tell."""
    return (tuple([int(word) for word in words[2:]]), int(words[1]))


def read_region(text):
    """The region that the text tells."""
    rows = rows_of(text)
    for at, words in enumerate(rows):
        if not _is_region_row(at, words):
            raise BadText(at, "form")
    return Region(int(rows[0][1]), [_line_of(words) for words in rows[1:]])


def read_moves(text):
    """The row of moves that the text tells."""
    moves = []
    if text == "":
        return moves
    for at, words in enumerate(rows_of(text)):
        if len(words) != 3 or not are_numbers(words):
            raise BadText(at, "form")
        moves.append(tuple([int(word) for word in words]))
    return moves
