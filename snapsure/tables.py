"""Tables of hooks: a book that has one never goes wrong."""

from snapsure.books import dealing_names_of
from snapsure.hooks import bites, first_hooks, further, hanging, places_beside
from snapsure.things import is_list_of, is_sorted_choice


def is_table(book, thing):
    """Tell whether the thing, of anything, is a table of the book."""
    names = dealing_names_of(book)
    if not is_list_of(thing, len(names), len(names)):
        return False
    return all([_are_hooks(book, name, row) and _is_closed(book, name, row) for name, row in zip(names, thing)])


def _are_hooks(book, name, thing):
    """Tell whether the thing, of anything, is a sorted list of unlike hooks beside the first dealing."""
    return is_sorted_choice(thing, [hook for hook, _ in places_beside(book, name)])


def _is_closed(book, name, hooks):
    """Tell whether no hook that the first dealing or one of the hooks asks for is missing, and none bites."""
    asked_for = first_hooks(book, name)
    for hook in hooks:
        asked_for.extend(further(book, name, hook))
    return all([hook in hooks for hook in asked_for]) and not any([bites(book, name, hook) for hook in hooks])


def table_of(book):
    """Tell the table with just the hooks that hang; None where one of these bites."""
    names = dealing_names_of(book)
    table = [hanging(book, name) for name in names]
    if any([bites(book, name, hook) for name, hooks in zip(names, table) for hook in hooks]):
        return None
    return table
