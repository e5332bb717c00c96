"""Splits: rings of dealings of which one begins ahead of all others and ends behind them, and these go in a row."""

from snapsure.orders import is_ring
from snapsure.rows import begin_row, step_rows, whole_rows
from snapsure.runs import is_run


def is_split(book, thing):
    """Tell whether the thing, of anything, is a split of the book."""
    if not is_run(book, thing):
        return False
    begun = [(row[1], row[2]) for row in thing if row[0] == "begin"]
    if len(begun) < 2 or thing != split_rows(book, begun):
        return False
    # Only those that stand are in a ring, so a ring of all says, too, that none is called off.
    return is_ring(book, thing, list(range(len(begun))))


def split_rows(book, begun):
    """Tell the rows in which the first of the dealings, told by (name, keys), is split around the others."""
    first, first_keys = begun[0]
    rows = [begin_row(first, first_keys)]
    for number, (name, own_keys) in enumerate(begun):
        if number > 0:
            rows.extend(whole_rows(book, name, own_keys, number))
    return rows + step_rows(book, first, 0) + [("end", 0)]
