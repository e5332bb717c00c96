"""Spans: from the row that begins a dealing of a run to the one that ends or drops it."""

from snapsure.runs import replayed


class Span:
    """The numbers of the first and the last row of a dealing."""

    def __init__(self, first, last):
        self.first = first
        self.last = last

    def overlaps(self, other):
        """Tell whether each begins ahead of the other one's end."""
        return self.first < other.last and other.first < self.last

    def __eq__(self, other):
        return isinstance(other, Span) and self.first == other.first and self.last == other.last

    def __repr__(self):
        return f"Span({self.first}, {self.last})"

    def __str__(self):
        return f"{self.first}-{self.last}"


def spans_of(book, run):
    """Tell the spans of all dealings of the run, by number; NoRun of what is no run, of anything."""
    replayed(book, run)
    return spans_in(run)


def spans_in(run):
    """Tell the spans of all dealings of what is known to be a run, by number."""
    last_of = {row[1]: at for at, row in enumerate(run) if row[0] in ("end", "drop")}
    begins = [at for at, row in enumerate(run) if row[0] == "begin"]
    return [Span(first, last_of[number]) for number, first in enumerate(begins)]
