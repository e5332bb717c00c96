"""The dealings of a run that stand, done one by one, and whether they tell the same then."""

from snapsure.dealt import dealt_in, those_standing
from snapsure.errors import NoOrder
from snapsure.rows import whole_rows
from snapsure.things import has_just


def one_by_one(book, run, order):
    """Tell the run in which those that stand go one behind the other; NoRun, or NoOrder, of anything."""
    return _in_a_row(book, _ordered(book, run, order))


def _ordered(book, run, order):
    """Tell what those that stand did, in the order handed in."""
    dealt = dealt_in(book, run)
    if not has_just(order, [one.number for one in those_standing(dealt)]):
        raise NoOrder("no list of all that stand, each once")
    return [dealt[number] for number in order]


def _in_a_row(book, ordered):
    rows = []
    for place, one in enumerate(ordered):
        rows.extend(whole_rows(book, one.name, one.own_keys, place))
    return rows


def tells_same(book, run, order):
    """Tell whether those that stand read and leave the same one by one; NoRun, or NoOrder, of anything."""
    ordered = _ordered(book, run, order)
    alone = dealt_in(book, _in_a_row(book, ordered))
    place_of = {one.number: place for place, one in enumerate(ordered)}
    if [_seen_places(one, place_of) for one in ordered] != [[seen for _, seen in one.reads()] for one in alone]:
        return False
    return {key: place_of[number] for key, number in _last_writers(ordered).items()} == _last_writers(alone)


def _seen_places(one, place_of):
    """Tell what each reading step saw, called by its place in the order."""
    return [None if seen is None else place_of[seen] for _, seen in one.reads()]


def _last_writers(stand):
    """Tell for each key that is written the number of the one that wrote it and ended last."""
    writers = {}
    for one in sorted(stand, key=lambda each: each.span.last):
        for key in one.written():
            writers[key] = one.number
    return writers
