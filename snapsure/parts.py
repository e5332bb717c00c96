"""Parts of a book, told by a figure for each dealing, and which of them go wrong.

With more dealings a part hangs together by more hooks, so what goes wrong goes wrong in each greater part, too.
"""

from snapsure.errors import NoPart
from snapsure.naming import chosen
from snapsure.tables import table_of
from snapsure.things import is_text

WITHIN = "1"
WITHOUT = "0"


def part_by(book, text):
    """Tell the book of a part; NoPart of what is none, of anything."""
    if not is_text(text) or len(text) != len(book[1]) or WITHIN not in text:
        raise NoPart("no figure for each dealing, one of them within at least")
    if not all([sign in (WITHIN, WITHOUT) for sign in text]):
        raise NoPart("another sign than the two figures")
    return chosen(book, [number for number, sign in enumerate(text) if sign == WITHIN])


def is_sure(book, text):
    """Tell whether a part is sure; NoPart of what is none, of anything."""
    return table_of(part_by(book, text)) is not None


def least_wrong(book):
    """Tell the parts that go wrong of which each lesser part is sure, sorted."""
    if table_of(book) is not None:
        return []
    found = []
    # Sorted, each part stands behind all that are within it.
    for text in _all_parts(book):
        if not _has_one_within(text, found) and not is_sure(book, text):
            found.append(text)
    return found


def greatest_sure(book):
    """Tell the parts that are sure, but with any dealing more go wrong, sorted."""
    least = least_wrong(book)
    sure = {text: True for text in _all_parts(book) if not _has_one_within(text, least)}
    return [text for text in sure if not any([more in sure for more in _with_one_more(text)])]


def _all_parts(book):
    """Tell the texts of all parts, sorted."""
    texts = [""]
    for _ in book[1]:
        texts = [text + sign for text in texts for sign in (WITHOUT, WITHIN)]
    return texts[1:]


def _has_one_within(text, others):
    """Tell whether one of the other parts is within the part."""
    return any([_is_within(other, text) for other in others])


def _is_within(one, other):
    return not any([sign == WITHIN and around == WITHOUT for sign, around in zip(one, other)])


def _with_one_more(text):
    """Tell the texts of the part with one dealing more, for each that is without."""
    return [text[:at] + WITHIN + text[at + 1:] for at, sign in enumerate(text) if sign == WITHOUT]
