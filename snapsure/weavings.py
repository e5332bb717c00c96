"""Weavings: all ways in which a few dealings can begin and end side by side."""

from snapsure.books import dealing_names_of
from snapsure.errors import NoSome, NoWeaving
from snapsure.keys import are_keys
from snapsure.orders import ring_of
from snapsure.rows import begin_row, step_rows
from snapsure.runs import standing
from snapsure.things import has_just, is_list_of, is_text, is_tuple_of

MOST_WOVEN = 3


def run_of(book, some, weaving):
    """Tell the run of a weaving of some dealings; NoSome, or NoWeaving, of anything."""
    _look_at_some(book, some)
    if not has_just(weaving, [number for number in range(len(some)) for _ in range(2)]):
        raise NoWeaving("no list in which the number of each dealing stands twice")
    return _woven(book, some, weaving)


def counts_of(book, some):
    """Tell how many weavings there are, how many have one called off, and how many go wrong; NoSome, of anything."""
    _look_at_some(book, some)
    runs = [_woven(book, some, weaving) for weaving in _all_weavings(len(some))]
    off = [run for run in runs if len(standing(book, run)) < len(some)]
    wrong = [run for run in runs if ring_of(book, run) is not None]
    return (len(runs), len(off), len(wrong))


def first_wrong(book, some):
    """Tell the first weaving, as lists are sorted, that goes wrong, None where none does; NoSome, of anything."""
    _look_at_some(book, some)
    for weaving in _all_weavings(len(some)):
        if ring_of(book, _woven(book, some, weaving)) is not None:
            return weaving
    return None


def _look_at_some(book, thing):
    """Refuse what are not some dealings, of anything, with NoSome."""
    if not is_list_of(thing, 1, MOST_WOVEN):
        raise NoSome(None)
    for at, one in enumerate(thing):
        if not _is_one(book, one):
            raise NoSome(at)


def _is_one(book, thing):
    if not is_tuple_of(thing, 2) or not is_text(thing[0]) or thing[0] not in dealing_names_of(book):
        return False
    return are_keys(book, thing[0], thing[1])


def _all_weavings(many):
    """Tell all weavings of so many dealings, as lists are sorted."""
    weavings = [[]]
    for _ in range(2 * many):
        weavings = [weaving + [number] for weaving in weavings for number in range(many) if weaving.count(number) < 2]
    return weavings


def _woven(book, some, weaving):
    """Tell the run in which each begins and does all its steps where its number stands first, and ends at the other."""
    rows = []
    begun_as = {}
    for one in weaving:
        if one in begun_as:
            rows.append(("end", begun_as[one]))
        else:
            begun_as[one] = len(begun_as)
            name, own_keys = some[one]
            rows.append(begin_row(name, own_keys))
            rows.extend(step_rows(book, name, begun_as[one]))
    return rows
