"""Runs: rows that a new stepper does one behind the other, and what each of them tells."""

from snapsure.errors import NoRun, SnapError
from snapsure.stepper import Stepper
from snapsure.things import is_list_of, is_text, is_tuple_of

MOST_ROWS = 400


def is_run(book, thing):
    """Tell whether the thing, of anything, is a run of the book."""
    try:
        replayed(book, thing)
    except NoRun:
        return False
    return True


def replayed(book, thing):
    """Tell a list of what each row of the run told; NoRun of what is no run, of anything."""
    if not is_list_of(thing, 0, MOST_ROWS):
        raise NoRun(None)
    stepper = Stepper(book)
    told = []
    for at, row in enumerate(thing):
        if not _is_row(row):
            raise NoRun(at)
        try:
            told.append(_do(stepper, row))
        except SnapError:
            raise NoRun(at) from None
    if any([stepper.state(number) == "open" for number in range(len(stepper))]):
        raise NoRun(len(thing))
    return told


def _is_row(thing):
    """Tell whether the thing, of anything, has a row's form; names, keys and numbers are the stepper's to refuse."""
    if is_tuple_of(thing, 3):
        # A list is asked for here: the stepper takes None for fresh keys.
        return is_text(thing[0]) and thing[0] == "begin" and isinstance(thing[2], list)
    return is_tuple_of(thing, 2) and is_text(thing[0]) and thing[0] in ("step", "end", "drop")


def _do(stepper, row):
    """Do the deed of a row and tell what it tells."""
    if row[0] == "begin":
        return stepper.begin(row[1], row[2])
    if row[0] == "step":
        return stepper.step(row[1])
    if row[0] == "end":
        return stepper.end(row[1])
    return stepper.drop(row[1])


def standing(book, run):
    """Tell the numbers, rising, of the dealings of the run that stand; NoRun of what is no run, of anything."""
    told = replayed(book, run)
    return sorted([row[1] for row, stands in zip(run, told) if row[0] == "end" and stands])
