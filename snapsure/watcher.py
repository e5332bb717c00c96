"""The watcher: a stepper that calls off what would let a run go wrong."""

from snapsure.ahead import between_among
from snapsure.dealt import dealt_till
from snapsure.stepper import Stepper

# Why a dealing is off, beside a stepper's reasons.
BETWEEN = "between"


class Watcher(Stepper):
    """A stepper in which a dealing is called off, too, where with it standing some dealing would be between.

    All that the interface tells of it stands here, also what is no other than a stepper's.
    """

    def __init__(self, book):
        super().__init__(book)

    def begin(self, name, keys=None):
        """Begin a dealing over the keys, or over fresh ones, and tell its number."""
        return super().begin(name, keys)

    def step(self, number):
        """Do the next step of a dealing and tell (deed, key, seen)."""
        return super().step(number)

    def end(self, number):
        """End a dealing and tell whether it stands."""
        return super().end(number)

    def _why_off(self, one):
        why = super()._why_off(one)
        if why is None and self._lets_be_between(one):
            return BETWEEN
        return why

    def _lets_be_between(self, one):
        """Tell whether with this one standing some dealing that stands, it or another one, would be between."""
        stand = [dealt_till(other, other.ended_at) for other in self._begun if other.word == "stands"]
        return len(between_among(stand + [dealt_till(one, len(self._deeds))])) > 0

    def drop(self, number):
        """Call off a dealing, whatever it has left."""
        super().drop(number)

    def undo(self):
        """Undo the last deed that stands."""
        super().undo()

    def state(self, number):
        """Tell the state of a dealing: open, stands or off."""
        return super().state(number)

    def why(self, number):
        """Tell why a dealing is off: drop, write or between; None of one that is not."""
        return self._by_number(number).reason

    def left(self, number):
        """Tell how many steps a dealing that is open has left."""
        return super().left(number)

    def writer(self, key):
        """Tell the number of the one that stands, wrote the key and ended last; None where there is none."""
        return super().writer(key)

    def rows(self):
        """Tell the run so far, with a drop for the end of each that was called off by between."""
        return super().rows()

    def twin(self):
        """Tell another watcher of the same book with the same deeds."""
        return self._taken_over_by(Watcher(self._book))

    def __len__(self):
        return len(self._begun)

    def __eq__(self, other):
        return self._is_like(other)

    def __str__(self):
        return " ".join([one.word for one in self._begun])
