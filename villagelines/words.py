"""What all texts share: names and numbers, the words of rows, the forms of rows."""


def are_digits(word):
    """True if the word consists of digits only."""
    return word.isascii() and word.isdigit()


def is_number(word):
    """True if the word is a whole number as texts write it."""
    return are_digits(word) and (word == "0" or not word.startswith("0"))


def are_numbers(words):
    """True if each of the words is a number."""
    return all([is_number(word) for word in words])


def is_name(word):
    """True if the word can name a family or a line."""
    return len(word) <= 12 and word.isascii() and word.isalpha() and word.islower()


def rows_of(text):
    """The rows of the text, each a list of its words."""
    # Without an argument, split would swallow the empty words that no form has.
    return [row.split(" ") for row in text.split("\n")]


def _parts_of(form, many):
    """The parts of a form for so many words; dots at its end repeat the part before them."""
    parts = form.split(" ")
    if parts[-1] != "..":
        return parts
    known = parts[:-1]
    return known + known[-1:] * (many - len(known))


def _fits(word, part):
    """True if the word can stand at this part of a form."""
    if part in ("NAME", "LINE"):
        return is_name(word)
    if part.isupper():
        return is_number(word)
    return word == part


def has_form(words, form):
    """True if the words are those of the form: capitals stand for names and numbers."""
    parts = _parts_of(form, len(words))
    return len(parts) == len(words) and all([_fits(word, part) for word, part in zip(words, parts)])


def form_of(words, forms):
    """The form, of these forms, that the words have, or None."""
    fitting = [form for form in forms if has_form(words, form)]
    return fitting[0] if len(fitting) > 0 else None


def values_of(words, form):
    """What the words tell at the capitals of the form that they have: names and whole numbers."""
    told = [word for word, part in zip(words, _parts_of(form, len(words))) if part.isupper()]
    return [int(word) if is_number(word) else word for word in told]
