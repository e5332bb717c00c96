"""The stepper: dealings of a book, done side by side under snapshots."""

from snapsure.begun import Begun
from snapsure.books import copy_of_book, dealing_by, has_many
from snapsure.errors import NoDeed, NoEnd, NoKey, NoKeys, NoNumber, NoStep, Over, TooMany
from snapsure.keys import are_keys, is_key
from snapsure.things import is_number_below

MOST_BEGUN = 40

# Why a dealing is off.
DROP = "drop"
WRITE = "write"


class Stepper:
    """Begins, steps, ends and drops dealings of one book, and undoes what it did."""

    def __init__(self, book):
        self._book = copy_of_book(book)
        self._begun = []
        # Each deed is a tuple (word, number of the dealing); undone ones are taken out.
        self._deeds = []

    def begin(self, name, keys=None):
        """Begin a dealing over the keys, or over fresh ones, and tell its number."""
        name, letters, steps = dealing_by(self._book, name)
        if keys is not None and not are_keys(self._book, name, keys):
            raise NoKeys("no keys of the dealing")
        if len(self._begun) >= MOST_BEGUN:
            raise TooMany("as many as may be were begun")
        own_keys = self._fresh_keys(letters) if keys is None else [(kind, at) for kind, at in keys]
        key_of = {letter: key for (letter, _), key in zip(letters, own_keys)}
        own_steps = [(deed, key_of[letter]) for deed, letter in steps]
        one = Begun(len(self._begun), name, own_keys, own_steps, len(self._deeds))
        self._begun.append(one)
        self._deeds.append(("begin", one.number))
        return one.number

    def _fresh_keys(self, letters):
        fresh = []
        for _, kind in letters:
            taken = [key for one in self._begun for key in one.own_keys] + fresh
            above = max([number + 1 for own, number in taken if own == kind], default=0)
            fresh.append((kind, above if has_many(self._book, kind) else 0))
        return fresh

    def step(self, number):
        """Do the next step of a dealing and tell (deed, key, seen)."""
        one = self._still_going(number)
        if one.left() == 0:
            raise NoStep("no step is left")
        deed, key = one.steps[len(one.told)]
        told = (deed, key, None if deed == "write" else self._seen(one, key))
        one.told.append(told)
        self._deeds.append(("step", one.number))
        return told

    def _seen(self, one, key):
        return one.number if one.wrote(key) else self._last_writer(key, one.begun_at)

    def _last_writer(self, key, moment):
        """Tell the number of the one that wrote the key and ended last, of those that stood ahead of the moment."""
        writers = [one for one in self._begun if one.stood_ahead(moment) and one.wrote(key)]
        return max(writers, key=lambda one: one.ended_at).number if writers else None

    def end(self, number):
        """End a dealing and tell whether it stands."""
        one = self._still_going(number)
        if one.left() > 0:
            raise NoEnd("steps are left")
        why = self._why_off(one)
        self._close(one, why)
        return why is None

    def _why_off(self, one):
        """Tell why the one, ended now, is called off, None where it stands."""
        late = [other for other in self._begun if other.stood_since(one.begun_at) and other.wrote_with(one)]
        return WRITE if len(late) > 0 else None

    def _close(self, one, why):
        one.close(why, len(self._deeds))
        # What a watcher alone calls off is kept as dropped: so a plain stepper that does the rows has it off, too.
        self._deeds.append(("end" if why in (None, WRITE) else "drop", one.number))

    def drop(self, number):
        """Call off a dealing, whatever it has left."""
        self._close(self._still_going(number), DROP)

    def undo(self):
        """Undo the last deed that stands."""
        if not self._deeds:
            raise NoDeed("there is no deed to undo")
        word, number = self._deeds.pop()
        one = self._begun[number]
        if word == "begin":
            del self._begun[number]
        elif word == "step":
            one.told.pop()
        else:
            one.reopen()

    def state(self, number):
        """Tell the state of a dealing: open, stands or off."""
        return self._by_number(number).word

    def left(self, number):
        """Tell how many steps a dealing that is open has left."""
        return self._still_going(number).left()

    def writer(self, key):
        """Tell the number of the one that stands, wrote the key and ended last; None where there is none."""
        if not is_key(self._book, key):
            raise NoKey("no key of the book")
        return self._last_writer(key, len(self._deeds))

    def rows(self):
        """Tell the run so far: a row for each deed that stands."""
        return [self._row(word, number) for word, number in self._deeds]

    def _row(self, word, number):
        if word == "begin":
            one = self._begun[number]
            return ("begin", one.name, list(one.own_keys))
        return (word, number)

    def twin(self):
        """Tell another stepper of the same book with the same deeds."""
        return self._taken_over_by(Stepper(self._book))

    def _taken_over_by(self, other):
        """Give another stepper, that did nothing, the same deeds; tell it."""
        other._begun = [one.copied() for one in self._begun]
        other._deeds = list(self._deeds)
        return other

    def _by_number(self, number):
        """Tell the begun dealing of a number; NoNumber of what is none, of anything."""
        if not is_number_below(number, len(self._begun)):
            raise NoNumber("no number of a dealing that was begun")
        return self._begun[number]

    def _still_going(self, number):
        one = self._by_number(number)
        if one.word != "open":
            raise Over("the dealing is ended or dropped")
        return one

    def __len__(self):
        return len(self._begun)

    def __eq__(self, other):
        return self._is_like(other)

    def _is_like(self, other):
        """Tell whether the other one, of anything, is a stepper or a watcher with the same book and run so far."""
        return isinstance(other, Stepper) and self._book == other._book and self.rows() == other.rows()

    def __str__(self):
        return " ".join([one.word for one in self._begun])
