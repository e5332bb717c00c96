"""Orders of a run, one by one, and rings, in which none can come first."""

from snapsure.ahead import must_among
from snapsure.dealt import dealt_in, those_standing
from snapsure.things import has_just, is_list_of, is_whole


def _stand_and_pairs(book, run):
    """Tell the numbers of those that stand, and by each (one, other) that the one must come ahead of the other."""
    dealt = dealt_in(book, run)
    stand = [one.number for one in those_standing(dealt)]
    return stand, {(one, other): True for one, other, _, _ in must_among(dealt)}


def order_of(book, run):
    """Tell the order that takes again and again the least number that may come next, None where there is none."""
    left, pairs = _stand_and_pairs(book, run)
    order = []
    while len(left) > 0:
        free = [one for one in left if not any([(other, one) in pairs for other in left])]
        if len(free) == 0:
            return None
        order.append(free[0])
        left = [one for one in left if one != free[0]]
    return order


def ring_of(book, run):
    """Tell a ring of fewest, its least number first, None where there is none."""
    stand, pairs = _stand_and_pairs(book, run)
    fewest = None
    for first in stand:
        # A ring is looked for from its least number alone, so that each is found with that one first.
        ring = _ring_through(first, [one for one in stand if one > first], pairs)
        if ring is not None and (fewest is None or len(ring) < len(fewest)):
            fewest = ring
    return fewest


def _ring_through(first, others, pairs):
    """Tell a ring of fewest that goes through the first one and else through some of the others, or None."""
    paths = [[first]]
    left = others
    while len(paths) > 0:
        for path in paths:
            if (path[-1], first) in pairs:
                return path
        paths = _paths_further(paths, left, pairs)
        reached = [path[-1] for path in paths]
        left = [one for one in left if one not in reached]
    return None


def _paths_further(paths, left, pairs):
    """Tell for each of those left to which one of the paths leads on the first path that does, with it at the end."""
    longer = []
    for one in left:
        leading = [path for path in paths if (path[-1], one) in pairs]
        if len(leading) > 0:
            longer.append(leading[0] + [one])
    return longer


def is_order(book, run, thing):
    """Tell whether the thing, of anything, is an order of the run."""
    stand, pairs = _stand_and_pairs(book, run)
    if not has_just(thing, stand):
        return False
    return not any([(later, one) in pairs for at, later in enumerate(thing) for one in thing[:at]])


def is_ring(book, run, thing):
    """Tell whether the thing, of anything, is a ring of the run."""
    stand, pairs = _stand_and_pairs(book, run)
    if not is_list_of(thing, 2, len(stand)) or not all([is_whole(one) for one in thing]):
        return False
    if len(set(thing)) < len(thing):
        return False
    return all([(one, following) in pairs for one, following in zip(thing, thing[1:] + thing[:1])])
