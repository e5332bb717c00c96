"""Names, letters and books: what is one, and what stands in it."""

from snapsure.errors import NoBook, NoDealing
from snapsure.things import is_list_of, is_text, is_tuple_of

MOST_SIGNS = 8
MOST_KINDS = 6
MOST_DEALINGS = 8
MOST_LETTERS = 4
MOST_STEPS = 8
DEEDS = ("read", "write", "ask")


def is_name(thing):
    """Tell whether the thing, of anything, is a text of one to eight small letters."""
    if not is_text(thing) or not 1 <= len(thing) <= MOST_SIGNS:
        return False
    return all(["a" <= sign <= "z" for sign in thing])


def is_letter(thing):
    """Tell whether the thing, of anything, is a text of one small letter."""
    return is_name(thing) and len(thing) == 1


def look_at_book(thing):
    """Refuse what is no book, of anything, with NoBook: told is what is wrong first."""
    if not is_tuple_of(thing, 2):
        raise NoBook(None, None, None)
    kinds, dealings = thing
    _look_at_kinds(kinds)
    kind_names = [name for name, _ in kinds]
    if not is_list_of(dealings, 1, MOST_DEALINGS):
        raise NoBook("dealings", None, None)
    names = []
    for at, dealing in enumerate(dealings):
        _look_at_head(at, dealing, names)
        name, letters, steps = dealing
        names.append(name)
        _look_at_letters(at, letters, kind_names)
        _look_at_steps(at, steps, [letter for letter, _ in letters])
        _look_for_idle(at, letters, steps)


def _look_at_kinds(kinds):
    if not is_list_of(kinds, 1, MOST_KINDS):
        raise NoBook("kinds", None, None)
    names = []
    for at, kind in enumerate(kinds):
        if not _is_kind(kind) or kind[0] in names:
            raise NoBook("kinds", at, None)
        names.append(kind[0])


def _is_kind(thing):
    return is_tuple_of(thing, 2) and is_name(thing[0]) and isinstance(thing[1], bool)


def _look_at_head(at, dealing, names):
    if not is_tuple_of(dealing, 3) or not is_name(dealing[0]) or dealing[0] in names:
        raise NoBook("dealings", at, None)


def _look_at_letters(at, letters, kind_names):
    if not is_list_of(letters, 1, MOST_LETTERS):
        raise NoBook("letters", at, None)
    seen = []
    for place, row in enumerate(letters):
        if not _is_letter_row(row, kind_names) or row[0] in seen:
            raise NoBook("letters", at, place)
        seen.append(row[0])


def _is_letter_row(thing, kind_names):
    return is_tuple_of(thing, 2) and is_letter(thing[0]) and is_text(thing[1]) and thing[1] in kind_names


def _look_at_steps(at, steps, own_letters):
    if not is_list_of(steps, 1, MOST_STEPS):
        raise NoBook("steps", at, None)
    for place, step in enumerate(steps):
        if not _is_step(step, own_letters):
            raise NoBook("steps", at, place)


def _is_step(thing, own_letters):
    if not is_tuple_of(thing, 2):
        return False
    deed, letter = thing
    return is_text(deed) and deed in DEEDS and is_text(letter) and letter in own_letters


def _look_for_idle(at, letters, steps):
    """Refuse a letter that stands in no step."""
    used = [letter for _, letter in steps]
    for place, (letter, _) in enumerate(letters):
        if letter not in used:
            raise NoBook("letters", at, place)


def copy_of_dealing(dealing):
    """Tell the dealing with lists of its own."""
    name, letters, steps = dealing
    return (name, list(letters), list(steps))


def copy_of_book(book):
    """Tell the book with lists of its own."""
    kinds, dealings = book
    return (list(kinds), [copy_of_dealing(dealing) for dealing in dealings])


def kind_names_of(book):
    """Tell the names of the kinds, in order."""
    return [name for name, _ in book[0]]


def dealing_names_of(book):
    """Tell the names of the dealings, in order."""
    return [name for name, _, _ in book[1]]


def dealing_by(book, name):
    """Tell the dealing of a name, copied; NoDealing of what is no name of one."""
    if is_text(name):
        for dealing in book[1]:
            if dealing[0] == name:
                return copy_of_dealing(dealing)
    raise NoDealing("no name of a dealing of the book")


def has_many(book, kind):
    """Tell whether there are keys without end of the kind of this name."""
    return any([many for name, many in book[0] if name == kind])
