"""The watcher (point 26), and what it promises (point 3 (h))."""

import random
import unittest
from unittest import mock

from snapsure.ahead import between
from snapsure.alone import tells_same
from snapsure.errors import NoDeed, NoNumber
from snapsure.naming import chosen
from snapsure.orders import is_order, order_of, ring_of
from snapsure.runs import is_run
from snapsure.settling import settled
from snapsure.stepper import Stepper
from snapsure.watcher import Watcher
from tests import test_stepper
from tests.chance import chance_book, script
from tests.samples import book_of, deal_book, odd_things, refused
from tests.search import RINGS, ring_book
from tests.watched import WatchedModel, chance_deed, run_closed


class WithWatchers:
    """A stepper's tests, done with watchers in the stead of steppers."""

    def setUp(self):
        patch = mock.patch.object(test_stepper, "Stepper", Watcher)
        patch.start()
        self.addCleanup(patch.stop)


class WatchersBegin(WithWatchers, test_stepper.Begins):
    pass


class WatchersTakeFreshKeys(WithWatchers, test_stepper.FreshKeys):
    pass


class WatchersSee(WithWatchers, test_stepper.Seen):
    pass


class WatchersEnd(WithWatchers, test_stepper.Ends):

    def test_reads_call_nobody_off(self):
        """Of two that read what the other one writes a stepper calls nobody off, a watcher one, by between."""
        self.assertEqual(self.overlapping("both", [("k", 1), ("k", 2)], "writes", [("k", 1)]), [True, True])
        self.assertEqual(self.overlapping("both", [("k", 1), ("k", 2)], "both", [("k", 2), ("k", 1)]), [True, False])


class WatchersRefuse(WithWatchers, test_stepper.Refusals):
    pass


class WatchersTell(WithWatchers, test_stepper.Told):
    pass


class WatchersAreEqual(WithWatchers, test_stepper.Equal):
    pass


class WatchersAreUndone(WithWatchers, test_stepper.Undone):
    pass


class WatchersHaveTwins(WithWatchers, test_stepper.Twins):
    pass


def do(stepper, text, book=None):
    """Do the deeds that the short text tells; told is what they told."""
    return [getattr(stepper, row[0])(*row[1:]) for row in script(book or deal_book(), text)]


def watched(text, book=None):
    watcher = Watcher(book or deal_book())
    do(watcher, text, book)
    return watcher


def whys(watcher):
    return [watcher.why(number) for number in range(len(watcher))]


def chain():
    """r must come ahead of m, and m of w, where their keys are so."""
    return book_of(m="a:k b:k, read a, write b", w="a:k, write a", r="a:k, read a")


class CalledOffByBetween(unittest.TestCase):

    def ends(self, expected, text, book=None):
        """By each dealing that ended its state, or why it is off; the last end tells so, too."""
        watcher = Watcher(book or deal_book())
        told = do(watcher, text, book)
        words = expected.split()
        self.assertIs(told[-1], watcher.state(script(book or deal_book(), text)[-1][1]) == "stands")
        self.assertEqual(str(watcher), " ".join("stands" if word == "stands" else "off" for word in words))
        self.assertEqual(whys(watcher), [None if word == "stands" else word for word in words])
        self.assertEqual(between(book or deal_book(), run_closed(watcher)), [])

    def test_one_that_would_be_between_itself(self):
        self.ends("stands between", "move:k0,k1 move:k1,k0 0 1 0! 1!")
        self.ends("between stands", "move:k0,k1 move:k1,k0 0 1 1! 0!")

    def test_between_two_others(self):
        self.ends("between stands stands", "m:k0,k1 w:k0 r:k1 0 1 2 1! 2! 0!", chain())

    def test_one_that_would_let_another_one_be_between(self):
        self.ends("stands stands between", "m:k0,k1 w:k0 r:k1 0 1 2 0! 1! 2!", chain())
        self.ends("stands between stands", "m:k0,k1 w:k0 r:k1 0 1 2 0! 2! 1!", chain())

    def test_also_where_there_would_be_no_ring(self):
        book = chain()
        rows = script(book, "m:k0,k1 w:k0 r:k1 0 1 2 0! 1! 2!")
        self.assertIsNone(ring_of(book, rows))
        self.assertEqual(between(book, rows), [0])

    def test_not_where_they_do_not_overlap(self):
        book = chain()
        for text in ("r:k1 0 0! m:k0,k1 w:k0 1 2 1! 2!", "m:k0,k1 w:k0 0 1 0! 1! r:k1 2 2!",
                     "w:k0 0 0! m:k0,k1 r:k1 1 2 1! 2!", "m:k0,k1 r:k1 0 1 0! 1! w:k0 2 2!"):
            watcher = Watcher(book)
            self.assertEqual([told for told in do(watcher, text, book) if isinstance(told, bool)], [True] * 3)

    def test_those_that_are_open_or_off_are_not_looked_at(self):
        book = chain()
        for text, expected in (("m:k0,k1 w:k0 r:k1 0 1 2 1! 2x 0!", "stands stands off"),
                               ("m:k0,k1 w:k0 r:k1 0 1 2 1! 0!", "stands stands open"),
                               ("m:k0,k1 w:k0 r:k1 0 1 2 0x 1! 2!", "off stands stands")):
            self.assertEqual(str(watched(text, book)), expected)

    def test_what_was_called_off_by_between_lets_nobody_be_between(self):
        book = chain()
        watcher = Watcher(book)
        do(watcher, "m:k0,k1 w:k0 r:k1 r:k1 m:k3,k1 0 1 2 3 4 0! 1! 2! 3!", book)
        self.assertEqual(whys(watcher), [None, None, "between", "between", None])
        watcher = Watcher(book)
        do(watcher, "m:k0,k1 w:k0 r:k1 w:k0 0 1 2 3 2! 1! 0! 3!", book)
        self.assertEqual(whys(watcher), ["between", None, None, "write"])
        watcher = Watcher(book)
        do(watcher, "m:k0,k1 w:k0 r:k1 m:k3,k1 0 1 2 3 2! 1! 0! 3!", book)
        self.assertEqual(whys(watcher), ["between", None, None, None])

    def test_what_was_called_off_is_not_seen(self):
        watcher = watched("move:k0,k1 move:k1,k0 0 1 0! 1!")
        self.assertEqual([watcher.writer(("k", 0)), watcher.writer(("k", 1))], [None, 0])
        self.assertEqual(do(watcher, "get:k0")[0], 2)
        self.assertEqual(watcher.step(2), ("read", ("k", 0), None))

    def test_a_split_does_not_stand(self):
        for many in RINGS:
            watcher = Watcher(ring_book(many))
            for row in settled(ring_book(many))[1][:-1]:
                getattr(watcher, row[0])(*row[1:])
            self.assertIs(watcher.end(0), False)
            self.assertEqual(whys(watcher), ["between"] + [None] * (many - 1))


class Why(unittest.TestCase):

    def why_is(self, expected, text, book=None):
        self.assertEqual(whys(watched(text, book)), expected)

    def test_none_of_open_ones_and_of_those_that_stand(self):
        self.why_is([None], "put:k0")
        self.why_is([None], "put:k0 0")
        self.why_is([None, None], "put:k0 0 0! put:k0 1 1!")

    def test_drop(self):
        self.why_is(["drop"], "put:k0 0x")
        self.why_is(["drop"], "put:k0 0 0x")

    def test_drop_whatever_it_wrote(self):
        self.why_is([None, "drop"], "put:k0 put:k0 0 1 0! 1x")
        self.why_is([None, "drop"], "move:k0,k1 move:k1,k0 0 1 0! 1x")

    def test_write(self):
        self.why_is([None, "write"], "put:k0 put:k0 0 1 0! 1!")
        self.why_is([None, "write"], "add:k0 put:k0 0 1 0! 1!")

    def test_write_also_where_it_would_be_between_as_well(self):
        book = book_of(m="a:k b:k, read a, write b", w="a:k c:m, write a, write c", r="a:k, read a",
                       n="a:k b:k c:m, read a, write b, write c")
        self.why_is(["between", None, None], "m:k0,k1 w:k0,m0 r:k1 0 1 2 1! 2! 0!", book)
        self.why_is(["write", None, None], "n:k0,k1,m0 w:k0,m0 r:k1 0 1 2 1! 2! 0!", book)
        self.why_is(["between", None, None], "n:k0,k1,m1 w:k0,m0 r:k1 0 1 2 1! 2! 0!", book)

    def test_between(self):
        self.why_is([None, "between"], "move:k0,k1 move:k1,k0 0 1 0! 1!")
        self.why_is(["between", None], "move:k0,k1 move:k1,k0 0 1 1! 0!")

    def test_no_number(self):
        for watcher in (Watcher(deal_book()), watched("move:k0,k1 move:k1,k0 0 1 0! 1! put:k0")):
            told = (str(watcher), watcher.rows())
            for thing in odd_things() + [len(watcher), -1, "0", True, False, None, [0], 10 ** 59]:
                refused(self, NoNumber, watcher.why, thing)
            self.assertEqual((str(watcher), watcher.rows()), told)

    def test_by_name(self):
        watcher = Watcher(book=deal_book())
        watcher.begin(name="put", keys=[("k", 0)])
        self.assertIsNone(watcher.why(number=0))
        watcher.drop(number=0)
        self.assertEqual(watcher.why(number=0), "drop")


class Undone(unittest.TestCase):

    def test_an_end_that_was_called_off_by_between(self):
        watcher = watched("move:k0,k1 move:k1,k0 0 1 0!")
        ahead = (str(watcher), watcher.rows(), whys(watcher), watcher.left(1))
        for _ in range(2):
            self.assertIs(watcher.end(1), False)
            self.assertEqual(watcher.why(1), "between")
            self.assertIsNone(watcher.undo())
            self.assertEqual((str(watcher), watcher.rows(), whys(watcher), watcher.left(1)), ahead)

    def test_what_comes_behind_it(self):
        watcher = watched("move:k0,k1 move:k1,k0 0 1 0! 1!")
        watcher.undo()
        watcher.undo()
        self.assertEqual(str(watcher), "open open")
        self.assertIs(watcher.end(1), True)
        self.assertIs(watcher.end(0), False)
        self.assertEqual(whys(watcher), ["between", None])
        watcher.undo()
        watcher.drop(0)
        self.assertEqual(whys(watcher), ["drop", None])
        watcher.undo()
        self.assertEqual(whys(watcher), [None, None])

    def test_an_end_that_stood_lets_nobody_be_between_any_more(self):
        watcher = watched("move:k0,k1 move:k1,k0 put:k5 0 1 2 2! 0!")
        watcher.undo()
        self.assertIs(watcher.end(1), True)

    def test_an_end_that_was_called_off_by_write(self):
        watcher = watched("put:k0 put:k0 0 1 0! 1!")
        self.assertEqual(whys(watcher), [None, "write"])
        watcher.undo()
        self.assertEqual(whys(watcher), [None, None])
        watcher.undo()
        self.assertIs(watcher.end(1), True)
        self.assertIs(watcher.end(0), False)
        self.assertEqual(whys(watcher), ["write", None])

    def test_to_nothing(self):
        watcher = watched("move:k0,k1 move:k1,k0 0 1 0! 1! put:k0 2x")
        while watcher.rows():
            watcher.undo()
        self.assertTrue(watcher == Watcher(deal_book()))
        self.assertRaises(NoDeed, watcher.undo)


class RowsAndTwins(unittest.TestCase):

    def test_a_watcher_is_a_stepper(self):
        self.assertTrue(issubclass(Watcher, Stepper))
        self.assertIsInstance(Watcher(deal_book()), Stepper)

    def test_a_drop_stands_for_the_end(self):
        watcher = watched("move:k0,k1 move:k1,k0 0 1 0! 1!")
        self.assertEqual(watcher.rows()[-2:], [("end", 0), ("drop", 1)])
        self.assertEqual(watched("put:k0 put:k0 0 1 0! 1!").rows()[-2:], [("end", 0), ("end", 1)])

    def test_a_plain_stepper_that_does_these_rows(self):
        for text in ("move:k0,k1 move:k1,k0 0 1 0! 1!", "move:k0,k1 move:k1,k0 put:k0 0 1 2 0! 1! 2! get:k0 3 3!"):
            watcher, stepper = watched(text), Stepper(deal_book())
            for row in watcher.rows():
                getattr(stepper, row[0])(*row[1:])
            self.assertEqual(str(stepper), str(watcher))
            self.assertTrue(stepper == watcher)
            self.assertTrue(watcher == stepper)
            self.assertFalse(stepper != watcher)
            self.assertFalse(watcher != stepper)

    def test_equal_both_ways_about(self):
        one, other = Watcher(deal_book()), Stepper(deal_book())
        self.assertTrue(one == other and other == one)
        one.begin("get")
        self.assertFalse(one == other or other == one)
        other.begin("get")
        self.assertTrue(one == other and other == one)
        self.assertTrue(one == watched("get:k0") and watched("get:k0") == one)
        one.step(0)
        self.assertFalse(one == other or other == one)
        self.assertFalse(Watcher(deal_book()) == Stepper(chosen(deal_book(), [0])))
        self.assertFalse(Stepper(deal_book()) == Watcher(chosen(deal_book(), [0])))

    def test_not_equal_where_a_stepper_lets_it_stand(self):
        text = "move:k0,k1 move:k1,k0 0 1 0! 1!"
        stepper = Stepper(deal_book())
        do(stepper, text)
        self.assertFalse(watched(text) == stepper or stepper == watched(text))

    def test_dropped_is_like_called_off_by_between(self):
        one, other = watched("move:k0,k1 move:k1,k0 0 1 0! 1!"), watched("move:k0,k1 move:k1,k0 0 1 0! 1x")
        self.assertTrue(one == other)
        self.assertEqual((one.why(1), other.why(1)), ("between", "drop"))

    def test_twins_are_watchers(self):
        watcher = watched("move:k0,k1 move:k1,k0 0 1 0! 1! put:k0 put:k0 2 3 2! 3! put:k7 4x")
        twin = watcher.twin()
        self.assertIs(type(twin), Watcher)
        self.assertIs(type(twin.twin()), Watcher)
        self.assertTrue(twin == watcher)
        self.assertEqual(whys(twin), [None, "between", None, "write", "drop"])
        self.assertEqual(whys(twin.twin()), whys(twin))

    def test_a_twin_watches_by_itself(self):
        watcher = watched("move:k0,k1 move:k1,k0 0 1 0!")
        twin = watcher.twin()
        self.assertIs(twin.end(1), False)
        self.assertEqual((str(watcher), str(twin)), ("stands open", "stands off"))
        watcher.undo()
        self.assertIs(watcher.end(1), True)
        self.assertEqual(twin.why(1), "between")

    def test_told_rows_are_the_askers_own(self):
        watcher = watched("move:k0,k1 move:k1,k0 0 1 0! 1!")
        rows = watcher.rows()
        rows[0][2].clear()
        rows.clear()
        self.assertEqual(watcher.rows(), script(deal_book(), "move:k0,k1 move:k1,k0 0 1 0! 1x"))


class AsTheModelTells(unittest.TestCase):

    def books(self):
        yield chosen(deal_book(), [3, 0, 1])
        yield chosen(deal_book(), [3])
        yield book_of(m="a:k b:k, read a, write b", w="a:k, write a", r="a:k b:k, read a, read b")
        yield book_of(f="a:l b:k, read a, write b", g="a:k b:l, read a, ask b", r="a:k b:l, read a, read b")
        for seed in range(8):
            yield chance_book(random.Random(seed), 4, 3, 4)

    def test_drawn_deeds(self):
        found = {"write": 0, "between": 0, "drop": 0}
        for book in self.books():
            for seed in range(4):
                chance = random.Random(seed)
                watcher, model = Watcher(book), WatchedModel(book)
                for _ in range(70):
                    word, args = chance_deed(chance, book, watcher, most_open=6, keys=4, undoing=0.05,
                                             dropping=0.01)
                    self.assertEqual(getattr(watcher, word)(*args), getattr(model, word)(*args), (book, word, args))
                    self.assertEqual(watcher.rows(), model.rows)
                    if word in ("end", "drop") and watcher.state(*args) == "off":
                        found[watcher.why(*args)] += 1
                    if chance.random() < 0.1:
                        watcher = watcher.twin()
                numbers = range(len(watcher))
                self.assertEqual([watcher.state(at) for at in numbers], [model.state(at) for at in numbers])
                self.assertEqual(whys(watcher), [model.why(at) for at in numbers])
        self.assertGreater(min(found.values()), 10, found)

    def test_whatever_is_done_the_run_has_an_order(self):
        """Point 3 (h)."""
        off = 0
        for seed in range(60):
            chance = random.Random(seed)
            book = (chosen(deal_book(), [3, 0, 1]), ring_book(3), chance_book(chance, 4, 3, 4))[seed % 3]
            watcher = Watcher(book)
            for deed in range(150):
                word, args = chance_deed(chance, book, watcher, most_open=6, keys=3)
                getattr(watcher, word)(*args)
                if deed % 30 == 29:
                    self.has_an_order(book, watcher)
            off += whys(watcher).count("between")
        self.assertGreater(off, 30)

    def has_an_order(self, book, watcher):
        run = run_closed(watcher)
        self.assertIs(is_run(book, run), True)
        order = order_of(book, run)
        self.assertIs(is_order(book, run, order), True)
        self.assertIs(tells_same(book, run, order), True)
        self.assertIsNone(ring_of(book, run))
        self.assertEqual(between(book, run), [])
        stepper = Stepper(book)
        for row in watcher.rows():
            getattr(stepper, row[0])(*row[1:])
        self.assertEqual(str(stepper), str(watcher))
        self.assertTrue(stepper == watcher)


if __name__ == "__main__":
    unittest.main()
