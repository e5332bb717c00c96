"""A plain model of the watcher, for comparison, and deeds by chance."""

from tests.judge import Judge
from tests.model import Model


class WatchedModel(Model):
    """What the document says of watchers, worked out by the judge of the run as it would be."""

    def __init__(self, book):
        super().__init__(book)
        self.book, self.whys = book, {}

    def closed(self, more=()):
        """The run so far with these rows and, behind it, a dropping for all that are open then."""
        rows = self.rows + list(more)
        closed = [row[1] for row in rows if row[0] in ("end", "drop")]
        return rows + [("drop", number) for number in range(self.many()) if number not in closed]

    def end(self, number):
        judge = Judge(self.book, self.closed([("end", number)]))
        if number not in judge.stand:
            self.whys[number] = "write"
        elif judge.between():
            self.whys[number] = "between"
            self.rows.append(("drop", number))
            return False
        return super().end(number)

    def drop(self, number):
        self.whys[number] = "drop"
        super().drop(number)

    def undo(self):
        if self.rows[-1][0] in ("end", "drop"):
            self.whys.pop(self.rows[-1][1], None)
        super().undo()

    def why(self, number):
        return self.whys.get(number)


def chance_deed(chance, book, stepper, most_open=4, keys=3, undoing=0.08, dropping=0.03):
    """A deed by chance that is not refused: its word and what is handed in."""
    going = [number for number in range(len(stepper)) if stepper.state(number) == "open"]
    many_of = dict(book[0])
    if chance.random() < undoing and stepper.rows():
        return "undo", ()
    choice = chance.random()
    if len(stepper) < 40 and (not going or (choice < 0.25 and len(going) < most_open)):
        name, letters, _ = chance.choice(book[1])
        own = [(kind, chance.randrange(keys) if many_of[kind] else 0) for _, kind in letters]
        return "begin", (name, own) if chance.random() < 0.95 else (name,)
    if not going:
        return "undo", ()
    number = chance.choice(going)
    if choice > 1 - dropping:
        return "drop", (number,)
    return ("step" if stepper.left(number) else "end"), (number,)


def run_closed(stepper):
    """The run so far, with a dropping for all that are open behind it."""
    numbers = range(len(stepper))
    return stepper.rows() + [("drop", number) for number in numbers if stepper.state(number) == "open"]
