"""Hooks: the places that dealings beside a first one could hang together by."""

from snapsure.books import dealing_names_of
from snapsure.places import bare_places, beside, meets, places_of


def places_beside(book, name):
    """Tell (hook, its place) for all hooks beside the first dealing, which is told by its name."""
    names = dealing_names_of(book)
    return [
        ((names[number], place[0]), place)
        for number in beside(book, name)
        for place in places_of(book, names[number])
    ]


def _met(around, places):
    """Tell the sorted hooks, of (hook, its place), whose place one of the places handed in meets."""
    return sorted([hook for hook, own in around if any([meets(place, own) for place in places])])


def first_hooks(book, name):
    """Tell the sorted hooks that a bare place of the first dealing meets."""
    return _met(places_beside(book, name), bare_places(book, name))


def further(book, name, hook):
    """Tell the sorted hooks beside the first dealing that some place of the hook's dealing, whichever, meets."""
    around = places_beside(book, name)
    return _met(around, places_of(book, hook[0]))


def bites(book, name, hook):
    """Tell whether a bare place of the hook's dealing, other than the hook's own, meets a place of the first one."""
    first_places = places_of(book, name)
    dealing, letter = hook
    bare = [place for place in bare_places(book, dealing) if place[0] != letter]
    return any([meets(place, other) for place in bare for other in first_places])


def hanging(book, name):
    """Tell all hooks beside the first dealing that hang, sorted."""
    around = places_beside(book, name)
    found = _met(around, bare_places(book, name))
    at = 0
    while at < len(found):
        reached = _met(around, places_of(book, found[at][0]))
        found.extend([hook for hook in reached if hook not in found])
        at += 1
    return sorted(found)
