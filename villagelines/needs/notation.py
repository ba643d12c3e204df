"""The texts of needs."""

from villagelines.errors import BadNeed
from villagelines.needs.need import Need
from villagelines.words import are_digits


def _row_text(row, words):
    """The text of one row of a need."""
    return " and ".join([f"{number} {word}" for number, word in zip(row, words) if number > 0])


def write_need(need, words):
    """The text of the need, with these words for its kinds."""
    return " or ".join([_row_text(row, words) for row in need.least])


def _word_at(told, at):
    """The word at this place of the text; behind its end the empty word, which fits nowhere."""
    return told[at] if at < len(told) else ""


def _read_number(told, at, words):
    """The need of a number and a kind that begins here, and the place behind it."""
    number = _word_at(told, at)
    if not are_digits(number):
        raise BadNeed(at, "start")
    if number.startswith("0"):
        raise BadNeed(at, "number")
    kind = _word_at(told, at + 1)
    if kind not in words:
        raise BadNeed(at + 1, "kind")
    return Need.of(len(words), words.index(kind), int(number)), at + 2


def _read_atom(told, at, words):
    """The atom that begins here, and the place behind it."""
    if _word_at(told, at) != "(":
        return _read_number(told, at, words)
    need, end = _read_any(told, at + 1, words)
    if _word_at(told, end) != ")":
        raise BadNeed(end, "close")
    return need, end + 1


def _read_term(told, at, words):
    """The term that begins here, and the place behind it."""
    need, end = _read_atom(told, at, words)
    while _word_at(told, end) == "and":
        more, end = _read_atom(told, end + 1, words)
        need = need & more
    return need, end


def _read_any(told, at, words):
    """The need that begins here, and the place behind it."""
    need, end = _read_term(told, at, words)
    while _word_at(told, end) == "or":
        more, end = _read_term(told, end + 1, words)
        need = need | more
    return need, end


def read_need(text, words):
    """The need that the text tells, with these words for its kinds."""
    told = text.split(" ")
    need, end = _read_any(told, 0, words)
    if end < len(told):
        raise BadNeed(end, "end")
    return need
