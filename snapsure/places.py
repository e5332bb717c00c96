"""The places of a dealing, which meet, and which dealings stand beside which."""

from snapsure.books import dealing_by, dealing_names_of, has_many


def places_of(book, name):
    """Tell the places of the dealing of this name: tuples (letter, kind, reads, writes)."""
    _, letters, steps = dealing_by(book, name)
    places = []
    for letter, kind in letters:
        own = letters_of_place(book, letters, letter, kind)
        if own[0] == letter:
            reads = any([deed != "write" and used in own for deed, used in steps])
            writes = any([deed != "read" and used in own for deed, used in steps])
            places.append((letter, kind, reads, writes))
    return places


def letters_of_place(book, letters, letter, kind):
    """Tell all letters, in order, of the place of a letter: one of its own, or that of all of a kind with one key."""
    if has_many(book, kind):
        return [letter]
    return [other for other, other_kind in letters if other_kind == kind]


def bare_places(book, name):
    """Tell the places of the dealing that read and do not write."""
    return [place for place in places_of(book, name) if place[2] and not place[3]]


def meets(one, other):
    """Tell whether two places are of one kind and at least one of them writes."""
    return one[1] == other[1] and (one[3] or other[3])


def beside(book, name):
    """Tell the numbers of the dealings, rising, that write no kind with one key that the dealing writes, too."""
    written = _lone_kinds_written(book, name)
    found = []
    for number, other in enumerate(dealing_names_of(book)):
        if not any([kind in written for kind in _lone_kinds_written(book, other)]):
            found.append(number)
    return found


def _lone_kinds_written(book, name):
    places = places_of(book, name)
    return [kind for _, kind, _, writes in places if writes and not has_many(book, kind)]
