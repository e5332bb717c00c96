"""All refusals of Snapsure."""


class SnapError(Exception):
    """Any refusal."""


class BookError(SnapError):
    """What is handed in is not of the form asked for."""


class StepError(SnapError):
    """What is asked for cannot be done, or not now."""


class NoBook(BookError):
    """No book: the part, the number of its kind or dealing, and the place in it."""

    def __init__(self, part, at, place):
        self.part = part
        self.at = at
        self.place = place


class NoText(BookError):
    """No text of a book: the number of the row."""

    def __init__(self, row):
        self.row = row


class NoNames(BookError):
    """No names to call a book's things by: which of them."""

    def __init__(self, which):
        self.which = which


class NoRun(BookError):
    """No run: the number of the row."""

    def __init__(self, row):
        self.row = row


class NoSome(BookError):
    """Not some dealings: the number of the first that is none."""

    def __init__(self, at):
        self.at = at


class NoKeys(BookError):
    """No keys of a dealing."""


class NoPart(BookError):
    """No part of a book."""


class NoOrder(BookError):
    """No order of the dealings that stand."""


class NoPicks(BookError):
    """No picks."""


class NoWeaving(BookError):
    """No weaving."""


class NoKey(BookError):
    """No key of a book."""


class NoDealing(StepError):
    """No name of a dealing of the book."""


class NoNumber(StepError):
    """No number of a dealing that was begun."""


class Over(StepError):
    """The dealing is ended or dropped."""


class NoStep(StepError):
    """The dealing has no step left."""


class NoEnd(StepError):
    """The dealing has steps left."""


class NoDeed(StepError):
    """There is no deed to undo."""


class TooMany(StepError):
    """There are as many as there may be."""


class NoRow(StepError):
    """No row of the desk."""


class NoName(StepError):
    """No name by which the desk keeps a book."""
