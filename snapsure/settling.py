"""Books settled: a split of fewest dealings, or a table.

A split goes along hooks: the first dealing is number 0, the dealings of the hooks go in a row. A bare place of the
first one meets the first hook's place, some place of each hook's dealing the next hook's place, and the last hook
bites; so each must come ahead of the next one, by the keys that the places share. Each split has such hooks; so the
fewest hooks make a split of fewest.
"""

from snapsure.books import MOST_LETTERS, dealing_by, dealing_names_of, has_many
from snapsure.hooks import bitten, hung_by
from snapsure.places import bare_places, meets, places_of
from snapsure.splits import split_rows
from snapsure.tables import table_of


def settled(book):
    """Tell ("run", a split of fewest dealings), or ("sure", the table)."""
    first, path = _fewest_hooks(book)
    if path is None:
        return ("sure", table_of(book))
    keys = _keys_along(book, first, path)
    names = [first] + [name for name, _ in path]
    begun = [(name, list(key_of.values())) for name, key_of in zip(names, keys)]
    return ("run", split_rows(book, begun))


def fewest(book):
    """Tell how many dealings a split has at the fewest, None where there is none."""
    _, path = _fewest_hooks(book)
    return None if path is None else len(path) + 1


def _fewest_hooks(book):
    """Tell a first dealing and the fewest hooks beside it that a split goes along; None and None where none does."""
    first, path = None, None
    for name in dealing_names_of(book):
        found = _hooks_to_a_bite(book, name)
        if found is not None and (path is None or len(found) < len(path)):
            first, path = name, found
    return first, path


def _hooks_to_a_bite(book, first):
    """Tell the fewest hooks, each of which hangs by the one ahead of it, to one that bites; None where none does."""
    hung = hung_by(book, first)
    for hook in hung:
        if len(bitten(book, first, hook)) > 0:
            path = [hook]
            while hung[path[0]] is not None:
                path.insert(0, hung[path[0]])
            return path
    return None


def _keys_along(book, first, path):
    """Tell for each dealing of the split, the first one's and the hooks', a dict from its letters to their keys."""
    keys = [_keys_of_its_own(book, first, 0)]
    leading = bare_places(book, first)
    for at, (name, letter) in enumerate(path):
        key_of = _keys_of_its_own(book, name, at + 1)
        key_of[letter] = keys[at][_letter_that_meets(leading, _place_by(book, name, letter))]
        keys.append(key_of)
        leading = places_of(book, name)
    bare_letter, first_letter = bitten(book, first, path[-1])[0]
    keys[-1][bare_letter] = keys[0][first_letter]
    return keys


def _keys_of_its_own(book, name, number):
    """Tell a dict from the dealing's letters to keys that, where there are many, no dealing of another number has."""
    return {
        letter: (kind, MOST_LETTERS * number + at if has_many(book, kind) else 0)
        for at, (letter, kind) in enumerate(dealing_by(book, name)[1])
    }


def _place_by(book, name, letter):
    return [place for place in places_of(book, name) if place[0] == letter][0]


def _letter_that_meets(places, other):
    """Tell the letter of the first of the places that meets the other one."""
    return [place[0] for place in places if meets(place, other)][0]
