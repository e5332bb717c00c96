"""Books called otherwise, and parts of books chosen by number."""

from snapsure.books import copy_of_dealing, dealing_names_of, is_letter, is_name, kind_names_of
from snapsure.errors import NoNames, NoPart
from snapsure.things import is_list_of, is_number_below, is_text


def renamed(book, kinds=None, dealings=None, letters=None):
    """Tell the book with its kinds, dealings and letters called so; None for as it is."""
    kind_names = _names_now("kinds", kinds, kind_names_of(book))
    dealing_names = _names_now("dealings", dealings, dealing_names_of(book))
    signs = _signs_now(letters, [[letter for letter, _ in own] for _, own, _ in book[1]])
    kind_now = dict(zip(kind_names_of(book), kind_names))
    return (
        [(kind_now[name], many) for name, many in book[0]],
        [_dealing_now(dealing, name, own, kind_now) for dealing, name, own in zip(book[1], dealing_names, signs)],
    )


def _names_now(which, handed, names):
    """Tell the names that are handed in, or those there are; NoNames of what is no list of as many."""
    if handed is None:
        return names
    if not is_list_of(handed, len(names), len(names)):
        raise NoNames(which)
    if not all([is_name(name) for name in handed]) or _has_two_alike(handed):
        raise NoNames(which)
    return list(handed)


def _signs_now(handed, signs):
    """Tell for each dealing the list of signs that its letters are now, from the texts handed in."""
    if handed is None:
        return signs
    if not is_list_of(handed, len(signs), len(signs)):
        raise NoNames("letters")
    if not all([_are_letters(text, len(own)) for text, own in zip(handed, signs)]):
        raise NoNames("letters")
    return [list(text) for text in handed]


def _are_letters(thing, many):
    if not is_text(thing) or len(thing) != many:
        return False
    return all([is_letter(sign) for sign in thing]) and not _has_two_alike(thing)


def _has_two_alike(things):
    return len(set(things)) < len(things)


def _dealing_now(dealing, name, signs, kind_now):
    _, letters, steps = dealing
    letter_now = {letter: sign for (letter, _), sign in zip(letters, signs)}
    return (
        name,
        [(letter_now[letter], kind_now[kind]) for letter, kind in letters],
        [(deed, letter_now[letter]) for deed, letter in steps],
    )


def chosen(book, numbers):
    """Tell the part of the book with the dealings of these numbers alone, in the order of the list."""
    kinds, dealings = book
    if not is_list_of(numbers, 1, len(dealings)):
        raise NoPart("no list of one number of a dealing or more, each once")
    if not all([is_number_below(number, len(dealings)) for number in numbers]) or _has_two_alike(numbers):
        raise NoPart("no list of unlike numbers of dealings")
    return (list(kinds), [copy_of_dealing(dealings[number]) for number in numbers])
