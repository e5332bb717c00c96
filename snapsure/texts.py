"""Books as texts: written, and read."""

from snapsure.books import DEEDS, look_at_book
from snapsure.errors import NoText
from snapsure.things import is_text

MANY = "many"
ONE = "one"


def shown(book):
    """Tell the book as a text."""
    kinds, dealings = book
    rows = [f"kind {name} {MANY if many else ONE}" for name, many in kinds]
    for name, letters, steps in dealings:
        rows.append(" ".join(["deal", name] + [f"{letter}:{kind}" for letter, kind in letters]))
        rows.extend([f"{deed} {letter}" for deed, letter in steps])
    return "\n".join(rows)


def read(text):
    """Tell the book that the text, of anything, tells; NoText or NoBook where it tells none."""
    if not is_text(text):
        raise NoText(0)
    kinds = []
    dealings = []
    for at, row in enumerate(text.split("\n")):
        words = row.split(" ")
        if not _is_row(words) or not _may_stand(words[0], dealings):
            raise NoText(at)
        _put(words, kinds, dealings)
    book = (kinds, dealings)
    look_at_book(book)
    return book


def _is_row(words):
    """Tell whether the words are a row by themselves, wherever it stands."""
    if "" in words:
        return False
    if words[0] == "kind":
        return len(words) == 3 and words[2] in (MANY, ONE)
    if words[0] == "deal":
        return len(words) >= 3 and all([_is_letter_word(word) for word in words[2:]])
    return words[0] in DEEDS and len(words) == 2


def _is_letter_word(word):
    return word.count(":") == 1 and not word.startswith(":") and not word.endswith(":")


def _may_stand(first, dealings):
    """Tell whether a row with this first word may stand behind the dealings read so far."""
    if first == "kind":
        return len(dealings) == 0
    return first == "deal" or len(dealings) > 0


def _put(words, kinds, dealings):
    if words[0] == "kind":
        kinds.append((words[1], words[2] == MANY))
    elif words[0] == "deal":
        dealings.append((words[1], [_letter_of(word) for word in words[2:]], []))
    else:
        dealings[-1][2].append((words[0], words[1]))


def _letter_of(word):
    letter, _, kind = word.partition(":")
    return (letter, kind)
