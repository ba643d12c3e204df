"""What all texts share: which words are numbers, and how rows are split."""


def is_number(word):
    """True if the word is a whole number as texts write it."""
    return word.isascii() and word.isdigit() and (word == "0" or not word.startswith("0"))


def are_numbers(words):
    """True if each of the words is a number."""
    return all([is_number(word) for word in words])


def rows_of(text):
    """The rows of the text, each a list of its words."""
    # Without an argument, split would swallow the empty words that no form has.
    return [row.split(" ") for row in text.split("\n")]
