"""The rows of dealings that do all their steps at once."""

from snapsure.books import dealing_by


def begin_row(name, own_keys):
    """Tell the row that begins a dealing over the keys."""
    return ("begin", name, [(kind, at) for kind, at in own_keys])


def step_rows(book, name, number):
    """Tell the rows of all steps of the dealing of this name, begun as this number."""
    return [("step", number) for _ in dealing_by(book, name)[2]]


def whole_rows(book, name, own_keys, number):
    """Tell the rows of a dealing that is begun as this number, stepped and ended with nothing between."""
    return [begin_row(name, own_keys)] + step_rows(book, name, number) + [("end", number)]
