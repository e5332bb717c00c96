"""Splits (point 21)."""

import random
import unittest

from snapsure.orders import is_ring, ring_of
from snapsure.runs import is_run
from snapsure.settling import fewest, settled
from snapsure.splits import is_split
from tests.chance import chance_runs, script
from tests.judge import Judge
from tests.samples import Alike, Odd, book_of, deal_book, no_runs, odd_things, told_of, unchanged
from tests.search import RINGS, ring_book

TWO = "move:k0,k1 move:k1,k0 1 1! 0 0!"
THREE = "move:k0,k1 move:k2,k0 1 1! move:k1,k2 2 2! 0 0!"


def rows(text):
    return script(deal_book(), text)


class SplitTest(unittest.TestCase):

    def split_is(self, expected, thing, book=None):
        told = told_of(self, is_split, book or deal_book(), thing)
        self.assertIs(told, expected, thing if isinstance(thing, list) else None)

    def is_run_but_no_split(self, thing):
        self.assertIs(is_run(deal_book(), thing), True)
        self.split_is(False, thing)


class IsSplit(SplitTest):

    def test_splits(self):
        for text in (TWO, THREE, "move:k5,k3 move:k3,k5 1 1! 0 0!", "move:k0,k1 move:k9,k0 1 1! move:k4,k9 2 2!"
                     " move:k1,k4 3 3! 0 0!"):
            self.split_is(True, rows(text))

    def test_each_next_one_by_seen_or_over(self):
        self.split_is(True, rows("move:k0,k1 late:k0 1 1! move:k1,k0 2 2! 0 0!"))
        book = book_of(f="a:k b:m, read a, write b", w="a:k c:p, write a, write c", r="c:p b:m, read c, read b",
                       v="c:p d:p, write c, ask d")
        self.split_is(True, script(book, "f:k0,m0 w:k0,p0 1 1! r:p0,m0 2 2! 0 0!"), book)
        self.split_is(True, script(book, "f:k0,m0 w:k0,p0 1 1! v:p1,p0 2 2! r:p1,m0 3 3! 0 0!"), book)
        self.split_is(True, script(book, "f:k0,m0 w:k0,p0 1 1! v:p0,p1 2 2! r:p1,m0 3 3! 0 0!"), book)
        self.split_is(False, script(book, "f:k0,m0 w:k0,p0 1 1! v:p2,p1 2 2! r:p1,m0 3 3! 0 0!"), book)

    def test_truths(self):
        self.assertIs(is_split(deal_book(), rows(TWO)), True)
        self.assertIs(is_split(deal_book(), rows("get:k0 0 0!")), False)
        self.assertIs(is_split(deal_book(), None), False)
        self.assertIs(is_split(thing=rows(TWO), book=deal_book()), True)

    def test_a_row_left_out(self):
        for text in (TWO, THREE):
            for at in range(len(rows(text))):
                self.split_is(False, rows(text)[:at] + rows(text)[at + 1:])

    def test_a_row_put_elsewhere(self):
        told = rows(THREE)
        for at in range(len(told)):
            for to in range(len(told)):
                other = told[:at] + told[at + 1:]
                other.insert(to, told[at])
                self.split_is(other == told, other)

    def test_a_row_put_otherwise(self):
        told = rows(TWO)
        others = [Odd(), Alike(), None, (), ["step", 0], ("begin", "move", [("k", 7), ("k", 8)]), ("begin", "move", None),
                  ("begin", "get", [("k", 0)]), ("begin", "none", []), ("step", 0), ("step", 1), ("step", 2),
                  ("end", 0), ("end", 1), ("end", -1), ("drop", 0), ("drop", 1), ("step", False), ("step", True),
                  ("end", True), ("end", False)]
        for at in range(len(told)):
            for row in others:
                other = told[:at] + [row] + told[at + 1:]
                if isinstance(row, (Odd, Alike)) or row != told[at] or repr(row) != repr(told[at]):
                    self.split_is(False, other)

    def test_the_first_row_begins_another_one(self):
        self.is_run_but_no_split(rows("move:k1,k0 move:k0,k1 0 0! 1 1!"))
        self.is_run_but_no_split(rows("move:k2,k0 move:k0,k1 0 0! move:k1,k2 2 2! 1 1!"))
        self.is_run_but_no_split(rows("get:k9 0 0! move:k0,k1 move:k1,k0 2 2! 1 1!"))
        self.is_run_but_no_split(rows("get:k9 move:k0,k1 move:k1,k0 2 2! 1 1! 0 0!"))

    def test_one_between_that_is_not_in_a_row(self):
        self.is_run_but_no_split(rows("move:k0,k1 move:k1,k0 0. 1 1! 0 0!"))
        self.is_run_but_no_split(rows("move:k0,k1 move:k1,k0 1. 0. 1 1! 0 0!"))
        self.is_run_but_no_split(rows("move:k0,k1 move:k1,k0 1 0 1! 0!"))
        self.is_run_but_no_split(rows("move:k0,k1 0 move:k1,k0 1 1! 0!"))
        self.is_run_but_no_split(rows("move:k0,k1 move:k1,k0 1 0 0! 1!"))
        self.is_run_but_no_split(rows("move:k0,k1 move:k2,k0 move:k1,k2 1 1! 2 2! 0 0!"))
        self.is_run_but_no_split(rows("move:k0,k1 move:k2,k0 1 move:k1,k2 2 1! 2! 0 0!"))
        self.is_run_but_no_split(rows("move:k0,k1 move:k2,k0 1 1! move:k1,k2 0 2 2! 0!"))

    def test_rows_behind_or_ahead(self):
        for more in ("get:k9 2 2!", "get:k9 2x", "move:k0,k1 2 2!"):
            self.is_run_but_no_split(rows(TWO + " " + more))
            self.is_run_but_no_split(rows(f"move:k0,k1 move:k1,k0 1 1! {more} 0 0!"))

    def test_one_that_is_dropped(self):
        self.is_run_but_no_split(rows("move:k0,k1 move:k1,k0 1 1! 0 0x"))
        self.is_run_but_no_split(rows("move:k0,k1 move:k1,k0 1 1x 0 0!"))
        self.is_run_but_no_split(rows("move:k0,k1 move:k1,k0 1 1! get:k0 2x 0 0!"))
        self.is_run_but_no_split(rows("move:k0,k1 move:k1,k0 1 1! 0x"))

    def test_one_that_is_called_off(self):
        self.is_run_but_no_split(rows("late:k0 late:k0 1 1! 0 0!"))
        self.is_run_but_no_split(rows("move:k0,k1 move:k1,k0 1 1! move:k1,k1 2 2! 0 0!"))
        self.is_run_but_no_split(rows("move:k0,k1 late:k0 1 1! move:k1,k1 2 2! 0 0!"))

    def test_numbers_in_order_that_are_no_ring(self):
        self.is_run_but_no_split([])
        self.is_run_but_no_split(rows("get:k0 0 0!"))
        self.is_run_but_no_split(rows("late:k0 0 0!"))
        self.is_run_but_no_split(rows("move:k0,k1 move:k3,k4 1 1! 0 0!"))
        self.is_run_but_no_split(rows("move:k0,k1 move:k1,k3 1 1! 0 0!"))
        self.is_run_but_no_split(rows("move:k0,k1 move:k3,k0 1 1! 0 0!"))
        self.is_run_but_no_split(rows("move:k0,k1 move:k1,k2 1 1! move:k2,k0 2 2! 0 0!"))
        self.is_run_but_no_split(rows("move:k0,k1 move:k2,k0 1 1! move:k1,k3 2 2! 0 0!"))
        self.is_run_but_no_split(rows("move:k0,k1 move:k1,k0 1 1! get:k9 2 2! 0 0!"))

    def test_a_ring_of_some_alone(self):
        run = rows("move:k0,k1 move:k1,k0 1 1! get:k0 2 2! 0 0!")
        self.assertEqual(ring_of(deal_book(), run), [0, 1])
        self.assertIs(is_ring(deal_book(), run, [0, 1, 2]), False)
        self.is_run_but_no_split(run)

    def test_a_run_that_goes_wrong_and_is_none(self):
        for text in ("move:k0,k1 move:k1,k0 0 1 0! 1!", "move:k0,k1 move:k1,k2 move:k2,k0 0 1 2 0! 1! 2!"):
            self.assertIsNotNone(ring_of(deal_book(), rows(text)))
            self.is_run_but_no_split(rows(text))

    def test_things_that_are_no_run(self):
        for thing, _ in no_runs():
            self.split_is(False, thing)
        for thing in odd_things() + [tuple(rows(TWO)), {0: rows(TWO)}, rows(TWO) * 60]:
            self.split_is(False, thing)
        for at in range(len(rows(TWO))):
            self.split_is(False, rows(TWO)[:at] + [list(rows(TWO)[at])] + rows(TWO)[at + 1:])

    def test_a_run_of_another_book_alone(self):
        self.split_is(False, rows(TWO), ring_book(2))
        self.split_is(False, settled(ring_book(2))[1])

    def test_as_many_as_may_be(self):
        book = ([("k", True)], [("d", [("a", "k"), ("b", "k")], [("read", "a"), ("write", "b")] * 4)])
        middle = " ".join(f"d:k{at + 2},k{at + 1 if at > 1 else 0} {at} {at}!" for at in range(1, 39))
        run = script(book, f"d:k0,k1 {middle} d:k1,k40 39 39! 0 0!")
        self.assertEqual(len(run), 400)
        self.split_is(True, run, book)
        self.split_is(False, script(book, f"d:k0,k1 {middle} d:k1,k41 39 39! 0 0!"), book)


class AsTheJudgeTells(SplitTest):

    def test_runs_by_chance(self):
        for book, run in chance_runs(200):
            self.split_is(Judge(book, run).is_split(), run, book)

    def test_told_runs_with_rows_put_otherwise(self):
        told = {True: 0, False: 0}
        for many in RINGS:
            book = ring_book(many)
            run = settled(book)[1]
            for seed in range(20):
                chance = random.Random(seed)
                other = [(row[0], row[1], list(row[2])) if row[0] == "begin" else row for row in run]
                for _ in range(chance.randint(0, 2)):
                    keys = chance.choice([row[2] for row in other if row[0] == "begin"])
                    at = chance.randrange(len(keys))
                    kind, number = keys[at]
                    keys[at] = (kind, chance.choice((number, 0 if kind == "l" else 99)))
                expected = Judge(book, other).is_split()
                self.split_is(expected, other, book)
                told[expected] += 1
        self.assertGreater(min(told.values()), 30)

    def test_a_split_goes_wrong(self):
        for many in RINGS:
            run = unchanged(self, settled, ring_book(many))[1]
            self.split_is(True, run, ring_book(many))
            self.assertIs(is_ring(ring_book(many), run, list(range(many))), True)
            self.assertIsNotNone(ring_of(ring_book(many), run))

    def test_each_run_that_goes_wrong_has_as_many_dealings_as_some_split(self):
        found = 0
        for book, run in chance_runs(400):
            if ring_of(book, run) is not None:
                self.assertLessEqual(fewest(book), len([row for row in run if row[0] == "begin"]))
                found += 1
        self.assertGreater(found, 15)


if __name__ == "__main__":
    unittest.main()
