"""Reading the texts of notes."""

from villagelines.errors import BadText
from villagelines.words import form_of, values_of
from villagelines.years.notes import Closed, Come, Counted, Leave, Opened, Ran, Seen, Stood

_FORMS = (
    "at MOMENT come NAME HEADS in VILLAGE",
    "at MOMENT leave NAME from VILLAGE",
    "at MOMENT seen NAME in VILLAGE",
    "at MOMENT open LINE NUMBER with STOP ..",
    "at MOMENT close LINE",
    "at MOMENT ran LINE",
    "at MOMENT stood LINE",
    "at MOMENT counted HEADS in VILLAGE",
)


def _opened(values):
    """The note of an opened line, whose last values are its stops."""
    moment, line, number, *stops = values
    return Opened(moment, line, number, tuple(stops))


def _note_of(verb, values):
    """The note of this verb, made of the values in its text."""
    if verb == Come.VERB:
        return Come(*values)
    if verb == Leave.VERB:
        return Leave(*values)
    if verb == Seen.VERB:
        return Seen(*values)
    if verb == Opened.VERB:
        return _opened(values)
    if verb == Closed.VERB:
        return Closed(*values)
    if verb == Ran.VERB:
        return Ran(*values)
    if verb == Stood.VERB:
        return Stood(*values)
    return Counted(*values)


def read_note(text):
    """The note that the text tells."""
    # A newline stays inside a word here, and no form has such a word.
    words = text.split(" ")
    form = form_of(words, _FORMS)
    if form is None:
        raise BadText(0, "form")
    return _note_of(words[2], values_of(words, form))
