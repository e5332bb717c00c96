"""Picks: bare places, whose reads can be made asks."""

from snapsure.books import dealing_names_of
from snapsure.errors import NoPicks
from snapsure.places import bare_places, letters_of_place
from snapsure.things import is_sorted_choice


def all_picks(book):
    """Tell the sorted list of all picks of the book."""
    return sorted([(name, place[0]) for name in dealing_names_of(book) for place in bare_places(book, name)])


def are_picks(book, thing):
    """Tell whether the thing, of anything, is a sorted list of unlike picks of the book, perhaps of none."""
    return is_sorted_choice(thing, all_picks(book))


def asked(book, picks):
    """Tell the book in which all reads of the picked places are asks; NoPicks of what are no picks, of anything."""
    if not are_picks(book, picks):
        raise NoPicks("no sorted list of unlike picks of the book")
    kinds, dealings = book
    return (list(kinds), [_asked_dealing(book, dealing, picks) for dealing in dealings])


def _asked_dealing(book, dealing, picks):
    name, letters, steps = dealing
    kind_of = dict(letters)
    picked = [letter for own_name, letter in picks if own_name == name]
    asking = [other for letter in picked for other in letters_of_place(book, letters, letter, kind_of[letter])]
    return (name, list(letters), [("ask" if letter in asking else deed, letter) for deed, letter in steps])
