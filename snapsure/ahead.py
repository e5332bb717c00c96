"""Who must come ahead of whom in a run, and who is between two others."""

from snapsure.dealt import dealt_in, those_standing


def must(book, run):
    """Tell the sorted list of all (one, other, word, key), each once; NoRun of what is no run, of anything."""
    return must_among(dealt_in(book, run))


def must_among(dealt):
    """Tell the sorted list of all (one, other, word, key) of a run's dealings, each once."""
    stand = those_standing(dealt)
    return sorted({
        (one.number, other.number, word, key)
        for one in stand
        for other in stand
        if one.number != other.number
        for word, key in _reasons(one, other)
    })


def _reasons(one, other):
    """Tell by which words and keys the one must come ahead of the other, both of which stand."""
    written = other.written()
    found = [("seen", key) for key, seen in other.reads() if seen == one.number]
    if one.span.last < other.span.last:
        found.extend([("over", key) for key in one.written() if key in written])
    if one.span.first < other.span.last:
        found.extend([("past", key) for key, seen in one.reads() if seen != one.number and key in written])
    return found


def between(book, run):
    """Tell the numbers of all that are between, rising; NoRun of what is no run, of anything."""
    dealt = dealt_in(book, run)
    pairs = [
        (one, other)
        for one, other, word, _ in must_among(dealt)
        if word == "past" and dealt[one].span.overlaps(dealt[other].span)
    ]
    return sorted({one for one, _ in pairs} & {other for _, other in pairs})
