"""The desk: it holds a diary, and takes rows of text that tell and ask."""

from villagelines.desk.questions import QUESTIONS, answer_to
from villagelines.errors import BadLimit, BadNote, BadText, Full, NoSuch, NothingLeft, RowRefused
from villagelines.words import form_of, has_form
from villagelines.years.diary import Diary, merged
from villagelines.years.notation import read_note
from villagelines.years.standing import first_fault

MOST_NOTES = 10


class Desk:
    """A diary of a region with so many villages, kept by rows of text."""

    def __init__(self, villages, limit=MOST_NOTES):
        self.villages = villages
        self._limit = limit
        self._show((Diary(villages),), 0)

    def _show(self, diaries, at):
        """Holds the diary at this place of a row in which undo goes back and redo goes on."""
        # A diary in the row is never changed again: what changes is a copy that is put behind it.
        self._diaries = diaries
        self._at = at
        self._held = diaries[at]
        self._fault = first_fault(diaries[at])

    def _with_fault(self, answer):
        """The answer, with the first fault of the diary if there is one."""
        return answer if self._fault is None else f"{answer} fault {self._fault}"

    def _changed(self, diary, answer):
        """The answer, after the desk has come to hold this diary; what could be redone is forgotten."""
        self._show((*self._diaries[:self._at + 1], diary), self._at + 1)
        return self._with_fault(answer)

    def _told(self, note):
        """The answer to a note, after it is told."""
        diary = merged(self.villages, self._held)
        index = diary.tell(note)
        if len(self._held) >= self._limit:
            raise Full(self._limit)
        return self._changed(diary, f"noted {index}")

    def _dropped(self, index):
        """The answer to a drop, after the note of this index is taken away."""
        diary = merged(self.villages, self._held)
        diary.drop(index)
        return self._changed(diary, "dropped")

    def _turned(self, at, word, answer):
        """The answer to the word undo or redo, after the desk has come to this place of the row."""
        if not 0 <= at < len(self._diaries):
            raise NothingLeft(word)
        self._show(self._diaries, at)
        return self._with_fault(answer)

    @property
    def texts(self):
        """The texts of the notes, in order."""
        return [note.text() for note in self._held.notes]

    @property
    def fault(self):
        """The first fault of the diary, or None."""
        return self._fault

    @property
    def limit(self):
        """The greatest number of notes that the desk takes."""
        return self._limit

    def set_limit(self, value):
        """Changes the greatest number of notes that the desk takes."""
        if value < max(1, len(self._held)) or value > MOST_NOTES:
            raise BadLimit(value)
        self._limit = value

    def say(self, row):
        """The answer to a row of text, after what the row says is done."""
        words = row.split(" ")
        form = form_of(words, QUESTIONS)
        if form is not None:
            return answer_to(self._held, self._fault, words, form)
        if has_form(words, "drop I"):
            return self._dropped(int(words[1]))
        if row == "undo":
            return self._turned(self._at - 1, row, "undone")
        if row == "redo":
            return self._turned(self._at + 1, row, "redone")
        return self._told(read_note(row))

    def _said(self, at, row):
        """The answer to the row of this index in a run, or the error that tells why the run is refused."""
        try:
            return self.say(row)
        except BadText:
            raise RowRefused(at, "form")
        except BadNote:
            raise RowRefused(at, "note")
        except Full:
            raise RowRefused(at, "full")
        except NoSuch:
            raise RowRefused(at, "drop")
        except NothingLeft as nothing:
            raise RowRefused(at, nothing.word)

    def run(self, text):
        """The answers to the rows of the text; if one is refused, the desk is as it was before."""
        diaries, at = self._diaries, self._at
        answers = []
        try:
            for index, row in enumerate(text.split("\n")):
                answers.append(self._said(index, row))
        except RowRefused:
            self._show(diaries, at)
            raise
        return answers

    def tried(self, text):
        """What a run returns or raises, after which the desk is as it was before."""
        diaries, at = self._diaries, self._at
        # A run that is refused leaves the desk as it was.
        answers = self.run(text)
        self._show(diaries, at)
        return answers

    def __len__(self):
        return len(self._held)
