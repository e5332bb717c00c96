"""Keys, and the keys of a dealing."""

from snapsure.books import dealing_by, has_many, kind_names_of
from snapsure.things import is_list_of, is_text, is_tuple_of, is_whole


def is_key(book, thing):
    """Tell whether the thing, of anything, is a key of a kind of the book."""
    if not is_tuple_of(thing, 2):
        return False
    kind, number = thing
    if not is_text(kind) or kind not in kind_names_of(book) or not is_whole(number):
        return False
    return number == 0 or (number > 0 and has_many(book, kind))


def are_keys(book, name, thing):
    """Tell whether the thing, of anything, is a list of keys for the letters of the dealing of this name."""
    letters = dealing_by(book, name)[1]
    if not is_list_of(thing, len(letters), len(letters)):
        return False
    return all([is_key(book, key) and key[0] == kind for key, (_, kind) in zip(thing, letters)])
