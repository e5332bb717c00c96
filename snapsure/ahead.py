"""Who must come ahead of whom in a run, and who is between two others."""

from snapsure.dealt import dealt_in, those_standing


def must(book, run):
    """Tell the sorted list of all (one, other, word, key), each once; NoRun of what is no run, of anything."""
    return must_among(dealt_in(book, run))


def must_among(dealt):
    """Tell the sorted list of all (one, other, word, key) of a run's dealings, each once."""
    stand = those_standing(dealt)
    return sorted({
        (one.number, other.number, word, key)
        for one in stand
        for other in stand
        if one.number != other.number
        for word, key in _reasons(one, other)
    })


def _reasons(one, other):
    """Tell by which words and keys the one must come ahead of the other, both of which stand."""
    written = other.written()
    found = [("seen", key) for key, seen in other.reads() if seen == one.number]
    if one.span.last < other.span.last:
        found.extend([("over", key) for key in one.written() if key in written])
    found.extend([("past", key) for key in _past_keys(one, other)])
    return found


def _past_keys(one, other):
    """Tell the keys by which the one must come ahead of the other by past."""
    if one.span.first > other.span.last:
        return []
    written = other.written()
    return [key for key, seen in one.reads() if seen != one.number and key in written]


def between(book, run):
    """Tell the numbers of all that are between, rising; NoRun of what is no run, of anything."""
    return between_among(those_standing(dealt_in(book, run)))


def between_among(stand):
    """Tell the numbers of those that are between, of all that stand."""
    return [one.number for one in stand if _is_between(one, stand)]


def _is_between(one, stand):
    around = [other for other in stand if other.number != one.number and one.span.overlaps(other.span)]
    ahead_of = [other for other in around if len(_past_keys(one, other)) > 0]
    behind = [other for other in around if len(_past_keys(other, one)) > 0]
    return len(ahead_of) > 0 and len(behind) > 0
