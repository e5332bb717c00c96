"""Rows that a desk is told, read to their words."""

from snapsure.books import is_name
from snapsure.errors import NoRow
from snapsure.things import is_text

NONE = "-"
MOST_FIGURES = 20

# What the words behind the first one are; `book` alone is read otherwise, as its text has blanks of its own.
FORMS = {
    "show": ("name",),
    "forget": ("name",),
    "names": (),
    "settle": ("name",),
    "asks": ("name",),
    "parts": ("name",),
    "begin": ("name", "name", "keys"),
    "step": ("name", "number"),
    "end": ("name", "number"),
    "drop": ("name", "number"),
    "undo": ("name",),
    "state": ("name", "number"),
    "ring": ("name",),
    "order": ("name",),
}


def words_of(row):
    """Tell the words of a row, the text of a book as one; NoRow of what is none, of anything."""
    if not is_text(row) or "\n" in row:
        raise NoRow("no text of one row")
    words = row.split(" ")
    if words[0] == "book":
        words = row.split(" ", 2)
        if len(words) != 3 or not is_name(words[1]):
            raise NoRow("no name and text of a book")
        return words
    if words[0] not in FORMS:
        raise NoRow("no word that a row begins with")
    forms = FORMS[words[0]]
    if len(words) != 1 + len(forms) or not all([_has_form(word, form) for word, form in zip(words[1:], forms)]):
        raise NoRow("no words as they follow this one")
    return words


def _has_form(word, form):
    if form == "name":
        return is_name(word)
    if form == "number":
        return _is_number(word)
    return word == NONE or all([_is_number(part) for part in word.split(",")])


def _is_number(word):
    """Tell whether the word is a number in figures, without a nought ahead but in 0 itself."""
    if not 1 <= len(word) <= MOST_FIGURES or not all(["0" <= sign <= "9" for sign in word]):
        return False
    return word == "0" or not word.startswith("0")


def numbers_of(word):
    """Tell the numbers of a word of keys, None for fresh ones."""
    if word == NONE:
        return None
    return [int(part) for part in word.split(",")]
