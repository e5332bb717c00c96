"""Hooks: the places that dealings beside a first one could hang together by."""

from snapsure.books import dealing_names_of
from snapsure.places import bare_places, beside, meets, places_of


def places_beside(book, name):
    """Tell (hook, its place) for all hooks beside the first dealing, which is told by its name."""
    names = dealing_names_of(book)
    return [
        ((names[number], place[0]), place)
        for number in beside(book, name)
        for place in places_of(book, names[number])
    ]


def _met(around, places):
    """Tell the sorted hooks, of (hook, its place), whose place one of the places handed in meets."""
    return sorted([hook for hook, own in around if any([meets(place, own) for place in places])])


def first_hooks(book, name):
    """Tell the sorted hooks that a bare place of the first dealing meets."""
    return _met(places_beside(book, name), bare_places(book, name))


def further(book, name, hook):
    """Tell the sorted hooks beside the first dealing that some place of the hook's dealing, whichever, meets."""
    around = places_beside(book, name)
    return _met(around, places_of(book, hook[0]))


def bites(book, name, hook):
    """Tell whether a bare place of the hook's dealing, other than the hook's own, meets a place of the first one."""
    return len(bitten(book, name, hook)) > 0


def bitten(book, name, hook):
    """Tell for all places by which the hook bites the letters: (of its dealing's bare one, of the first one's)."""
    first_places = places_of(book, name)
    dealing, letter = hook
    bare = [place for place in bare_places(book, dealing) if place[0] != letter]
    return [(place[0], other[0]) for place in bare for other in first_places if meets(place, other)]


def hanging(book, name):
    """Tell all hooks beside the first dealing that hang, sorted."""
    return sorted(list(hung_by(book, name)))


def hung_by(book, name):
    """Tell for each hook that hangs the one that it hangs by, None where a bare place of the first dealing meets it.

    Of the ones that it could hang by it is one of the nearest; near ones stand ahead of far ones.
    """
    around = places_beside(book, name)
    hung = {hook: None for hook in _met(around, bare_places(book, name))}
    waiting = list(hung)
    at = 0
    while at < len(waiting):
        by = waiting[at]
        reached = [hook for hook in _met(around, places_of(book, by[0])) if hook not in hung]
        for hook in reached:
            hung[hook] = by
        waiting.extend(reached)
        at += 1
    return hung
