"""All weavings of a few dealings (point 27)."""

import random
import unittest

from snapsure.errors import BookError, NoSome, NoWeaving
from snapsure.naming import chosen
from snapsure.orders import ring_of
from snapsure.runs import is_run, standing
from snapsure.weavings import counts_of, first_wrong, run_of
from tests.chance import chance_book, script
from tests.judge import Judge
from tests.samples import Alike, Odd, book_of, deal_book, odd_things, refused, unchanged
from tests.search import goes_wrong, some_choices, weavings, woven


def keys(text):
    return [(word[0], int(word[1:])) for word in text.split(",")]


def some(text):
    """Some dealings, told shortly: `move:k0,k1 get:k0`."""
    return [(word.split(":")[0], keys(word.split(":")[1])) for word in text.split()]


SKEW = "move:k0,k1 move:k1,k0"


class RunOf(unittest.TestCase):

    def run_is(self, text, dealings, weaving):
        told = unchanged(self, run_of, deal_book(), some(dealings), weaving)
        self.assertEqual(told, script(deal_book(), text))
        self.assertIs(is_run(deal_book(), told), True)

    def test_of_one(self):
        self.run_is("late:k3 0 0!", "late:k3", [0, 0])

    def test_of_two(self):
        self.run_is("move:k0,k1 0 0! move:k1,k0 1 1!", SKEW, [0, 0, 1, 1])
        self.run_is("move:k0,k1 0 move:k1,k0 1 0! 1!", SKEW, [0, 1, 0, 1])
        self.run_is("move:k0,k1 0 move:k1,k0 1 1! 0!", SKEW, [0, 1, 1, 0])

    def test_numbers_in_the_run_are_those_of_the_beginnings(self):
        self.run_is("move:k1,k0 0 move:k0,k1 1 1! 0!", SKEW, [1, 0, 0, 1])
        self.run_is("move:k1,k0 0 move:k0,k1 1 0! 1!", SKEW, [1, 0, 1, 0])
        self.run_is("move:k1,k0 0 0! move:k0,k1 1 1!", SKEW, [1, 1, 0, 0])

    def test_of_three(self):
        self.run_is("mix:k1,m2,l0 0 get:k0 1 0! put:k0 2 1! 2!", "get:k0 put:k0 mix:k1,m2,l0", [2, 0, 2, 1, 0, 1])

    def test_all(self):
        for dealings in ("get:k0", SKEW, "get:k0 put:k0 mix:k0,m2,l0"):
            for weaving in weavings(len(some(dealings))):
                told = run_of(deal_book(), some(dealings), list(weaving))
                self.assertEqual(told, woven(deal_book(), some(dealings), weaving))

    def test_the_run_is_a_new_one(self):
        dealings, weaving = some(SKEW), [0, 1, 1, 0]
        told = run_of(book=deal_book(), some=dealings, weaving=weaving)
        told[0][2].clear()
        told.clear()
        self.assertEqual((dealings, weaving), (some(SKEW), [0, 1, 1, 0]))
        self.assertEqual(len(run_of(deal_book(), dealings, weaving)), 8)


class Counts(unittest.TestCase):

    def counts_are(self, expected, dealings, first):
        told = unchanged(self, counts_of, deal_book(), some(dealings))
        self.assertEqual((type(told), told), (tuple, expected))
        self.assertEqual(unchanged(self, first_wrong, deal_book(), some(dealings)), first)

    def test_of_one(self):
        for dealings in ("get:k0", "move:k0,k0", "mix:k0,m0,l0"):
            self.counts_are((1, 0, 0), dealings, None)

    def test_of_two(self):
        self.counts_are((6, 0, 0), "get:k0 get:k0", None)
        self.counts_are((6, 0, 0), "put:k0 put:k1", None)
        self.counts_are((6, 4, 0), "put:k0 put:k0", None)
        self.counts_are((6, 4, 0), "add:k0 late:k0", None)
        self.counts_are((6, 0, 4), SKEW, [0, 1, 0, 1])
        self.counts_are((6, 4, 0), "move:k0,k0 move:k0,k0", None)

    def test_of_three(self):
        self.counts_are((90, 0, 0), "get:k0 put:k1 late:k2", None)
        self.counts_are((90, 60, 0), "get:k0 put:k1 late:k1", None)
        self.assertEqual(counts_of(deal_book(), some("put:k0 put:k0 put:k0"))[:2], (90, 84))

    def test_the_same_dealing_twice_and_three_times_over_the_same_keys(self):
        book = deal_book()
        for dealings in ("put:k0 put:k0", "get:k1 get:k1", "add:k0 add:k0 add:k0", "move:k0,k1 move:k0,k1",
                         "move:k0,k1 move:k0,k1 move:k1,k0", "move:k0,k1 move:k0,k1 move:k0,k1"):
            self.as_gone_through(book, some(dealings))
        self.assertEqual(counts_of(book, some("put:k0 put:k0 get:k0"))[0], 90)

    def as_gone_through(self, book, dealings):
        runs = {tuple(weaving): woven(book, dealings, weaving) for weaving in weavings(len(dealings))}
        off = [run for run in runs.values() if len(Judge(book, run).stand) < len(dealings)]
        wrong = sorted(weaving for weaving, run in runs.items() if goes_wrong(book, run))
        told = unchanged(self, counts_of, book, dealings)
        self.assertEqual(told, (len(runs), len(off), len(wrong)))
        first = unchanged(self, first_wrong, book, dealings)
        self.assertEqual(first, list(wrong[0]) if wrong else None)
        if wrong:
            self.assertIsNotNone(ring_of(book, run_of(book, dealings, first)))
        return told

    def test_first_that_goes_wrong(self):
        self.assertEqual(first_wrong(deal_book(), some("get:k5 " + SKEW)), [0, 0, 1, 2, 1, 2])
        self.assertEqual(first_wrong(deal_book(), some("move:k0,k1 get:k5 move:k1,k0")), [0, 1, 1, 2, 0, 2])
        book = book_of(f="a:k b:m, read a, write b", w="a:k c:p, write a, write c", r="c:p b:m, read c, read b")
        dealings = [("f", keys("k0,m0")), ("w", keys("k0,p0")), ("r", keys("p0,m0"))]
        self.assertEqual(first_wrong(book, dealings), [0, 1, 1, 2, 0, 2])
        self.as_gone_through(book, dealings)

    def test_against_a_search(self):
        found = {"off": 0, "wrong": 0}
        for seed in range(60):
            chance = random.Random(seed)
            book = chance_book(chance, 3, 3, 4) if seed % 2 else chosen(deal_book(), [3, seed % 3])
            for many in (1, 2):
                for _ in range(6):
                    told = self.as_gone_through(book, self.chance_some(chance, book, many))
                    found["off"] += told[1] > 0
                    found["wrong"] += told[2] > 0
        self.assertGreater(min(found.values()), 5)

    def test_three_against_a_search(self):
        for seed in range(20):
            chance = random.Random(seed)
            book = chance_book(chance, 3, 3, 4) if seed % 2 else deal_book()
            self.as_gone_through(book, self.chance_some(chance, book, 3))

    def chance_some(self, chance, book, many):
        lone = [name for name, without_end in book[0] if not without_end]
        dealings = [chance.choice(book[1]) for _ in range(many)]
        return [(name, [(kind, 0 if kind in lone else chance.randrange(2)) for _, kind in letters])
                for name, letters, _ in dealings]

    def test_all_keys_of_two(self):
        book = book_of(d="a:k b:k, read a, write b")
        wrong = [dealings for dealings in some_choices(book, 2) if counts_of(book, dealings)[2] > 0]
        self.assertEqual(wrong, [[("d", keys("k0,k1")), ("d", keys("k1,k0"))]])

    def test_the_weaving_is_a_new_one(self):
        told = first_wrong(some=some(SKEW), book=deal_book())
        told.clear()
        self.assertEqual(first_wrong(deal_book(), some(SKEW)), [0, 1, 0, 1])
        self.assertEqual(counts_of(some=some(SKEW), book=deal_book()), (6, 0, 4))

    def test_called_otherwise(self):
        """Point 3 (g)."""
        book = book_of(move="a:k b:k, read a, write b")
        other = book_of(z="y:m x:m, read y, write x")
        for text in ("k0,k1 k1,k0", "k0,k0 k0,k1", "k0,k1 k0,k2", "k0,k1 k0,k1 k1,k0"):
            one = [("move", keys(word)) for word in text.split()]
            again = [("z", keys(word.replace("k", "m"))) for word in text.split()]
            self.assertEqual(counts_of(book, one), counts_of(other, again))
            self.assertEqual(first_wrong(book, one), first_wrong(other, again))


class NotSome(unittest.TestCase):

    def none(self, at, thing):
        for call, more in ((counts_of, []), (first_wrong, []), (run_of, [[0, 0]]), (run_of, [Odd()])):
            told = refused(self, NoSome, call, deal_book(), thing, *more).at
            self.assertEqual((type(told), told), (type(at), at))

    def test_no_list_of_one_to_three(self):
        for thing in odd_things() + [Odd(), Alike(), tuple(some(SKEW)), {0: some(SKEW)[0]}, "get"]:
            if not isinstance(thing, list) or len(thing) == 0:
                self.none(None, thing)
        self.none(None, [])
        self.none(None, some("get:k0") * 4)
        self.none(None, [Odd()] * 4)

    def test_the_first_that_is_none(self):
        good = some("get:k0 move:k0,k1")
        for thing in odd_things() + [
                ["get", keys("k0")], ("get",), ("get", keys("k0"), 0), ("none", keys("k0")), ("", []),
                (Odd(), keys("k0")), ("get", Odd()), (Alike(), keys("k0")), ("get", Alike()), ("get", [Odd()]), ("get", [Alike()]),
                ("get", []), ("get", None), ("get", keys("k0,k1")), ("get", keys("m0")), ("get", keys("l0")),
                ("get", tuple(keys("k0"))), ("get", [("k", -1)]), ("get", [("k", True)]), ("see", keys("l1")),
                ("see", [("l", False)]), ("move", keys("k0")), ("move", keys("k0,m0")), (["get"], keys("k0")),
                ("k", keys("k0")), (0, keys("k0")), (None, None)]:
            self.none(0, [thing])
            self.none(0, [thing, thing])
            self.none(1, [good[0], thing])
            self.none(2, good + [thing])
            self.none(1, [good[0], thing, Odd()])
            self.none(0, [thing] + good)

    def test_it_stands_under_book_error(self):
        self.assertTrue(issubclass(NoSome, BookError))


class NotWeavings(unittest.TestCase):

    def none(self, dealings, thing):
        refused(self, NoWeaving, run_of, deal_book(), some(dealings), thing)

    def test_anything(self):
        for thing in odd_things() + [Odd(), Alike(), (0, 0), "00", {0: 0}, {0}, iter([0, 0]), range(2), 0]:
            self.none("get:k0", thing)
            self.none(SKEW, thing)

    def test_things_that_are_no_numbers(self):
        for thing in odd_things():
            self.none("get:k0", [0, thing])
            self.none("get:k0", [thing, thing])
            self.none(SKEW, [0, 1, 0, thing])

    def test_a_number_once_or_three_times(self):
        for weaving in ([], [0], [0, 0, 0], [0, 0, 0, 0], [1, 1], [0, 1]):
            self.none("get:k0", weaving)
        for weaving in ([0, 0], [1, 1], [0, 1], [0, 0, 1], [0, 0, 0, 1], [0, 1, 1, 1], [0, 0, 1, 1, 1], [0, 0, 1, 1, 0],
                        [0, 0, 1, 1, 2], [0, 0, 1, 1, 2, 2], [0, 0, 2, 2], [1, 1, 2, 2], [0, 0, -1, -1], [0, 0, 1, -1]):
            self.none(SKEW, weaving)

    def test_truths_for_numbers(self):
        for weaving in ([False, False], [0, False], [False, 0]):
            self.none("get:k0", weaving)
        for weaving in ([0, True, 0, True], [0, 1, 0, True], [False, 1, 0, 1]):
            self.none(SKEW, weaving)

    def test_no_some_goes_ahead(self):
        for weaving in ([], [0], None, Odd(), [Odd()], [0, 0]):
            self.assertEqual(refused(self, NoSome, run_of, deal_book(), [], weaving).at, None)
            self.assertEqual(refused(self, NoSome, run_of, deal_book(), some("get:k0") + [0], weaving).at, 1)

    def test_it_stands_under_book_error(self):
        self.assertTrue(issubclass(NoWeaving, BookError))


class Whole(unittest.TestCase):

    def test_off_counts_weavings_in_which_some_one_does_not_stand(self):
        for weaving in weavings(2):
            run = run_of(deal_book(), some("put:k0 put:k0"), list(weaving))
            self.assertEqual(len(standing(deal_book(), run)) < 2, weaving not in ((0, 0, 1, 1), (1, 1, 0, 0)))


if __name__ == "__main__":
    unittest.main()
