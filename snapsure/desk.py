"""The desk: books kept by names, each with a stepper, told and answered in rows of words."""

from snapsure.askpapers import ask_paper
from snapsure.books import dealing_by
from snapsure.deskrows import NONE, numbers_of, words_of
from snapsure.errors import NoKeys, NoName, TooMany
from snapsure.orders import order_of, ring_of
from snapsure.parts import least_wrong
from snapsure.settling import fewest
from snapsure.stepper import Stepper
from snapsure.texts import read, shown

MOST_KEPT = 8
DONE = "ok"
# What stands at the desk for each line feed of a book's text.
ROW_END = "; "


class Kept:
    """A book that is kept, and its stepper."""

    def __init__(self, book):
        self.book = book
        self.stepper = Stepper(book)

    def run_closed(self):
        """Tell the run so far, with a dropping for each dealing that is open behind it; at the desk they stay so."""
        still_going = [number for number in range(len(self.stepper)) if self.stepper.state(number) == "open"]
        return self.stepper.rows() + [("drop", number) for number in still_going]


def _in_words(words):
    return " ".join(words) if len(words) > 0 else NONE


def _numbers_in_words(numbers):
    return NONE if numbers is None else _in_words([str(number) for number in numbers])


def _show(kept):
    return shown(kept.book).replace("\n", ROW_END)


def _settle(kept):
    many = fewest(kept.book)
    return "sure" if many is None else str(many)


def _asks(kept):
    picks = ask_paper(kept.book)[0]
    return _in_words([f"{name}.{letter}" for name, letter in picks])


def _parts(kept):
    return _in_words(least_wrong(kept.book))


def _begin(kept, name, word):
    letters = dealing_by(kept.book, name)[1]
    numbers = numbers_of(word)
    if numbers is None:
        return str(kept.stepper.begin(name))
    if len(numbers) != len(letters):
        raise NoKeys("not as many keys as letters")
    return str(kept.stepper.begin(name, [(kind, number) for (_, kind), number in zip(letters, numbers)]))


def _step(kept, word):
    deed, (kind, number), seen = kept.stepper.step(int(word))
    return " ".join([deed, kind, str(number), NONE if seen is None else str(seen)])


def _end(kept, word):
    return "stands" if kept.stepper.end(int(word)) else "off"


def _drop(kept, word):
    kept.stepper.drop(int(word))
    return DONE


def _undo(kept):
    kept.stepper.undo()
    return DONE


def _state(kept, word):
    return kept.stepper.state(int(word))


def _ring(kept):
    return _numbers_in_words(ring_of(kept.book, kept.run_closed()))


def _order(kept):
    return _numbers_in_words(order_of(kept.book, kept.run_closed()))


ACTIONS = {
    "show": _show,
    "settle": _settle,
    "asks": _asks,
    "parts": _parts,
    "begin": _begin,
    "step": _step,
    "end": _end,
    "drop": _drop,
    "undo": _undo,
    "state": _state,
    "ring": _ring,
    "order": _order,
}


class Desk:
    """Keeps up to eight books by names, each with a stepper."""

    def __init__(self):
        self._kept = {}

    def say(self, row):
        """Do what the row asks for and tell the answer; NoRow, NoName, then what the books and steppers refuse."""
        words = words_of(row)
        if words[0] == "names":
            return _in_words(sorted(list(self._kept)))
        name = words[1]
        if words[0] == "book":
            return self._keep(name, words[2])
        if name not in self._kept:
            raise NoName("nothing is kept by this name")
        if words[0] == "forget":
            return self._forget(name)
        action = ACTIONS[words[0]]
        kept = self._kept[name]
        rest = words[2:]
        return action(kept, *rest)

    def _keep(self, name, text):
        book = read(text.replace(ROW_END, "\n"))
        if name not in self._kept and len(self._kept) >= MOST_KEPT:
            raise TooMany("as many books as may be are kept")
        self._kept[name] = Kept(book)
        return DONE

    def _forget(self, name):
        del self._kept[name]
        return DONE
