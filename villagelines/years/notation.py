"""Reading the texts of notes."""

from villagelines.errors import BadText
from villagelines.words import has_form, values_of
from villagelines.years.notes import Closed, Come, Counted, Leave, Opened, Ran, Seen, Stood

_FORMS = {
    "come": "at MOMENT come NAME HEADS in VILLAGE",
    "leave": "at MOMENT leave NAME from VILLAGE",
    "seen": "at MOMENT seen NAME in VILLAGE",
    "open": "at MOMENT open LINE NUMBER with STOP ..",
    "close": "at MOMENT close LINE",
    "ran": "at MOMENT ran LINE",
    "stood": "at MOMENT stood LINE",
    "counted": "at MOMENT counted HEADS in VILLAGE",
}


def _form_of(words):
    """The form that the words have, or None."""
    if len(words) < 3:
        return None
    form = _FORMS.get(words[2])
    if form is None or not has_form(words, form):
        return None
    return form


def _opened(values):
    """The note of an opened line, whose last values are its stops."""
    moment, line, number, *stops = values
    return Opened(moment, line, number, tuple(stops))


def _note_of(verb, values):
    """The note of this verb, made of the values in its text."""
    if verb == Come.VERB:
        return Come(*values)
    if verb == Leave.VERB:
        return Leave(*values)
    if verb == Seen.VERB:
        return Seen(*values)
    if verb == Opened.VERB:
        return _opened(values)
    if verb == Closed.VERB:
        return Closed(*values)
    if verb == Ran.VERB:
        return Ran(*values)
    if verb == Stood.VERB:
        return Stood(*values)
    return Counted(*values)


def read_note(text):
    """The note that the text tells."""
    # A newline stays inside a word here, and no form has such a word.
    words = text.split(" ")
    form = _form_of(words)
    if form is None:
        raise BadText(0, "form")
    return _note_of(words[2], values_of(words, form))
