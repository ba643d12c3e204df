"""The answers of a desk to the rows that ask."""

from villagelines.words import values_of
from villagelines.years.ask import ask, newcomers_now, possible_placings
from villagelines.years.standing import standing

QUESTIONS = (
    "ask meet NAME NAME",
    "ask live NAME VILLAGE",
    "ask run LINE",
    "ask newcomers VILLAGE NAME NAME",
    "ask places",
    "ask fault",
)


def _first_unknown(diary, words, form):
    """The first word that names what is not there, or None."""
    names, _, lines, _, _ = standing(diary)
    for word, part in zip(words, form.split(" ")):
        if part == "NAME" and word not in names:
            return word
        if part == "LINE" and word not in lines:
            return word
        if part == "VILLAGE" and int(word) >= diary.villages:
            return word
    return None


def _told_counts(counts):
    """The numbers of newcomers, written out."""
    return " ".join(["never" if count is None else str(count) for count in counts])


def answer_to(diary, fault, words, form):
    """The answer to the question that these words of this form ask about the diary with this first fault."""
    if form == "ask fault":
        return "none" if fault is None else str(fault)
    if fault is not None:
        return f"fault {fault}"
    unknown = _first_unknown(diary, words, form)
    if unknown is not None:
        return f"unknown {unknown}"
    if form == "ask places":
        return str(len(possible_placings(diary)))
    values = values_of(words, form)
    if words[1] == "newcomers":
        return _told_counts(newcomers_now(diary, *values))
    return ask(diary, (words[1], *values))[0]
