"""Papers of asks: the fewest picks that make a book sure, and why no fewer do."""

from itertools import combinations
from snapsure.asks import all_picks, are_picks, asked
from snapsure.errors import TooMany
from snapsure.settling import settled
from snapsure.splits import is_split
from snapsure.tables import is_table, table_of
from snapsure.things import is_list_of, is_sorted_choice, is_tuple_of

MOST_BARE = 6


def is_ask_paper(book, thing):
    """Tell whether the thing, of anything, is a paper of asks of the book."""
    every = all_picks(book)
    if len(every) > MOST_BARE or not is_tuple_of(thing, 3):
        return False
    picks, table, runs = thing
    if not are_picks(book, picks) or not is_table(asked(book, picks), table):
        return False
    choices = _choices_below(every, len(picks))
    if not is_list_of(runs, len(choices), len(choices)):
        return False
    return all([_is_told_of(book, choice, row) for choice, row in zip(choices, runs)])


def _choices_below(picks, many):
    """Tell all choices of fewer of the sorted picks than so many: by how many, those of as many sorted."""
    return [list(choice) for few in range(many) for choice in combinations(picks, few)]


def _is_told_of(book, choice, thing):
    """Tell whether the thing, of anything, is (the choice, a split of the book asked by it)."""
    if not is_tuple_of(thing, 2):
        return False
    fewer, run = thing
    return is_sorted_choice(fewer, choice) and len(fewer) == len(choice) and is_split(asked(book, choice), run)


def ask_paper(book):
    """Tell a paper of asks with the told table; TooMany where the book has more than six bare places."""
    every = all_picks(book)
    if len(every) > MOST_BARE:
        raise TooMany("more bare places than six")
    picks = _first_that_are_sure(book, every)
    runs = [(fewer, settled(asked(book, fewer))[1]) for fewer in _choices_below(every, len(picks))]
    return (picks, table_of(asked(book, picks)), runs)


def _first_that_are_sure(book, every):
    """Tell the first of the fewest picks that make the book sure; all of them together do."""
    for picks in _choices_below(every, len(every)):
        if table_of(asked(book, picks)) is not None:
            return picks
    return every
