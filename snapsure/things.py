"""What a thing is, asked of anything.

Each question looks at the kind of the thing first: what is of another kind
may refuse to be compared, measured or hashed.
"""


def is_text(thing):
    """Tell whether the thing is a text."""
    return isinstance(thing, str)


def is_whole(thing):
    """Tell whether the thing is a whole number: an int that is no truth."""
    return isinstance(thing, int) and not isinstance(thing, bool)


def is_number_below(thing, many):
    """Tell whether the thing is one of the whole numbers 0, 1 .. below many."""
    return is_whole(thing) and 0 <= thing < many


def is_tuple_of(thing, many):
    """Tell whether the thing is a tuple of so many."""
    return isinstance(thing, tuple) and len(thing) == many


def is_list_of(thing, least, most):
    """Tell whether the thing is a list of at least and at most so many."""
    return isinstance(thing, list) and least <= len(thing) <= most


def has_just(thing, numbers):
    """Tell whether the thing is a list of just these rising whole numbers, in any order."""
    if not is_list_of(thing, len(numbers), len(numbers)) or not all([is_whole(one) for one in thing]):
        return False
    return sorted(thing) == numbers


def is_sorted_choice(thing, pairs):
    """Tell whether the thing is a sorted list of some of these pairs of texts, perhaps of none, each once."""
    if not is_list_of(thing, 0, len(pairs)) or not all([_is_pair_of_texts(one) and one in pairs for one in thing]):
        return False
    return thing == sorted(set(thing))


def _is_pair_of_texts(thing):
    return is_tuple_of(thing, 2) and is_text(thing[0]) and is_text(thing[1])
