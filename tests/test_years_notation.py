"""Point [57], with point [3] on texts: reading notes."""

from tests.checks import Checks
from villagelines.errors import BadNote, BadText
from villagelines.years.notation import read_note
from villagelines.years.notes import Closed, Come, Counted, Leave, Opened, Ran, Seen, Stood

NOTES = {
    "at 0 come ann 3 in 2": Come(0, "ann", 3, 2),
    "at 12 leave ann from 0": Leave(12, "ann", 0),
    "at 7 seen abcdefghijkl in 10": Seen(7, "abcdefghijkl", 10),
    "at 1 open red 5 with 0 1": Opened(1, "red", 5, (0, 1)),
    "at 1 open b 1000000000000 with 0 2 3 4 60": Opened(1, "b", 10 ** 12, (0, 2, 3, 4, 60)),
    "at 100 close red": Closed(100, "red"),
    "at 5 ran red": Ran(5, "red"),
    "at 6 stood red": Stood(6, "red"),
    "at 6 counted 0 in 0": Counted(6, 0, 0),
}
# The forms: N stands for a name, 1 for a number.
FORMS = ["at 1 come N 1 in 1", "at 1 leave N from 1", "at 1 seen N in 1", "at 1 open N 1 with 1 2",
         "at 1 close N", "at 1 ran N", "at 1 stood N", "at 1 counted 1 in 1"]
NO_NAMES = ("", "abcdefghijklm", "Ann", "ann1", "1", "-", "a-b", "ann\n", "N")
NO_NUMBERS = ("", "00", "01", "007", "-1", "+1", "1.0", "1_0", "x", "1x", "\n1", "1\n")


class TestRead(Checks):

    def test_read(self):
        for text, note in NOTES.items():
            found = read_note(text)
            self.assertIs(type(found), type(note))
            self.assert_is(sorted(vars(found).items()), sorted(vars(note).items()))
            self.assertEqual(found, note)

    def test_reads_the_text_of_a_note(self):
        for note in NOTES.values():
            self.assertEqual(read_note(note.text()), note)

    def test_words_of_a_form_as_names(self):
        for name in ("in", "at", "come", "from", "with", "open"):
            self.assert_is(read_note(f"at 0 come {name} 3 in 2").name, name)
            self.assert_is(read_note(f"at 0 close {name}").line, name)

    def test_great_numbers(self):
        great = "9" * 60
        self.assertEqual(read_note(f"at {great} come ann {great} in {great}").text(),
                         f"at {great} come ann {great} in {great}")
        self.assert_is(read_note(f"at 0 open red {great} with 0 {great}").stops, (0, 10 ** 60 - 1))

    def test_clean(self):
        self.assert_clean(lambda text: vars(read_note(text)), "at 1 open red 5 with 0 1")


class TestForm(Checks):

    def refused(self, text):
        with self.subTest(text):
            self.assert_raises(BadText, (0, "form"), read_note, text)

    def test_no_form(self):
        for text in ("", " ", "at", "at 1", "at 1 ", "come", "at come", "at 1 NAME", "note", "at 1 gone ann",
                     "at 1 opened red 5 with 0 1", "at 1 closed red", "At 1 ran red", "at 1 Ran red",
                     "1 ran red", "at 1 MOMENT red", "at 1 0"):
            self.refused(text)

    def test_every_word_is_needed(self):
        for form in FORMS:
            words = form.replace("N", "ann").split(" ")
            least = words[:-1] if words[2] == "open" else words
            read_note(" ".join(words))
            for at in range(len(least)):
                self.refused(" ".join(least[:at] + least[at + 1:]))

    def test_no_word_too_many(self):
        for form in FORMS:
            text = form.replace("N", "ann")
            for word in ("", "x", "in"):
                self.refused(f"{text} {word}")
                self.refused(f"{word} {text}")
            if " open " not in text:
                self.refused(f"{text} 3")

    def test_empty_words(self):
        for form in FORMS:
            words = form.replace("N", "ann").split(" ")
            for at in range(len(words) + 1):
                self.refused(" ".join(words[:at] + [""] + words[at:]))

    def test_fixed_words(self):
        for form in FORMS:
            words = form.replace("N", "ann").split(" ")
            for at, word in enumerate(form.split(" ")):
                if word.isalpha() and word != "N":
                    for other in ("x", "1", word.upper(), word + "x", word + "\n"):
                        self.refused(" ".join(words[:at] + [other] + words[at + 1:]))

    def test_names(self):
        for form in FORMS:
            if "N" in form:
                for name in NO_NAMES:
                    self.refused(form.replace("N", name))

    def test_numbers(self):
        for form in FORMS:
            words = form.replace("N", "ann").split(" ")
            for at, word in enumerate(words):
                if word.isdigit():
                    for other in NO_NUMBERS:
                        self.refused(" ".join(words[:at] + [other] + words[at + 1:]))

    def test_newlines(self):
        for text in NOTES:
            self.refused(f"{text}\n")
            self.refused(f"\n{text}")
            self.refused(f"{text}\n{text}")
            self.refused(text.replace(" ", "\n"))
            self.refused(text.replace(" ", "\n", 1))

    def test_no_stops(self):
        self.refused("at 1 open red 5 with")
        self.refused("at 1 open red 5 with ")
        self.refused("at 1 open red 5")


class TestBadNotes(Checks):

    def test_the_note_raises(self):
        faults = {
            "at 0 come ann 0 in 0": "heads",
            "at 0 open red 0 with 0 1": "number",
            "at 0 open red 0 with 0": "number",
            "at 0 open red 1 with 0": "stops",
            "at 0 open red 1 with 1 0": "stops",
            "at 0 open red 1 with 1 1": "stops",
            "at 0 open red 1 with 0 1 1": "stops",
        }
        for text, why in faults.items():
            with self.subTest(text):
                self.assert_raises(BadNote, (why,), read_note, text)

    def test_form_before_the_note(self):
        self.assert_raises(BadText, (0, "form"), read_note, "at 0 come ann 0 in x")
        self.assert_raises(BadText, (0, "form"), read_note, "at 0 open red 0 with 1 01")
