"""The dealings of a run one by one (point 17)."""

import itertools
import unittest

from snapsure.ahead import must
from snapsure.alone import one_by_one, tells_same
from snapsure.errors import BookError, NoOrder
from snapsure.orders import is_order, order_of
from snapsure.runs import is_run, standing
from tests.chance import called_otherwise, chance_runs, script
from tests.judge import Judge
from tests.samples import Odd, deal_book, no_run, no_runs, odd_things, refused, unchanged


def rows(text):
    return script(deal_book(), text)


class OneByOne(unittest.TestCase):

    def told(self, text, order):
        return unchanged(self, one_by_one, deal_book(), rows(text), order)

    def test_in_the_order_handed_in(self):
        text = "move:k0,k1 put:k0 late:k5 0. 2 1 1! 0. 0! 2!"
        self.assertEqual(self.told(text, [0, 1, 2]), rows("move:k0,k1 0 0! put:k0 1 1! late:k5 2 2!"))
        self.assertEqual(self.told(text, [2, 0, 1]), rows("late:k5 0 0! move:k0,k1 1 1! put:k0 2 2!"))
        self.assertEqual(self.told(text, [1, 2, 0]), rows("put:k0 0 0! late:k5 1 1! move:k0,k1 2 2!"))

    def test_without_those_that_are_off(self):
        text = "put:k0 put:k0 get:k7 late:k2 0 1 1! 0! 3. 3x 2 2!"
        self.assertEqual(self.told(text, [1, 2]), rows("put:k0 0 0! get:k7 1 1!"))
        self.assertEqual(self.told(text, [2, 1]), rows("get:k7 0 0! put:k0 1 1!"))

    def test_none(self):
        self.assertEqual(self.told("", []), [])
        self.assertEqual(self.told("get:k0 0x", []), [])

    def test_all_kinds_of_keys_stay(self):
        self.assertEqual(self.told("mix:k9,m4,l0 0 0! see:l0 1 1!", [1, 0]), rows("see:l0 0 0! mix:k9,m4,l0 1 1!"))

    def test_as_many_as_may_be(self):
        book = ([("k", True)], [("d", [("a", "k")], [("read", "a"), ("write", "a")] * 4)])
        run = script(book, " ".join(f"d:k{at} {at} {at}!" for at in range(40)))
        order = list(range(40))[::-1]
        told = one_by_one(book, run, order)
        self.assertEqual(len(told), 400)
        self.assertIs(is_run(book, told), True)
        self.assertEqual([row[2] for row in told if row[0] == "begin"], [[("k", at)] for at in order])
        self.assertIs(tells_same(book, run, order), True)

    def test_a_ring_has_rows_one_by_one_too(self):
        self.assertEqual(self.told("move:k0,k1 move:k1,k0 0 1 0! 1!", [1, 0]),
                         rows("move:k1,k0 0 0! move:k0,k1 1 1!"))

    def test_the_run_is_a_new_one(self):
        run, order = rows("get:k0 0 0! put:k1 1 1!"), [1, 0]
        told = one_by_one(deal_book(), run, order)
        told[0][2].clear()
        told.clear()
        self.assertEqual(run, rows("get:k0 0 0! put:k1 1 1!"))
        self.assertEqual(one_by_one(deal_book(), run, order), rows("put:k1 0 0! get:k0 1 1!"))
        run[0][2][0] = ("k", 7)
        self.assertEqual(one_by_one(deal_book(), run, order), rows("put:k1 0 0! get:k7 1 1!"))

    def test_by_name(self):
        self.assertEqual(one_by_one(order=[], run=[], book=deal_book()), [])
        self.assertIs(tells_same(order=[], run=[], book=deal_book()), True)


class TellsSame(unittest.TestCase):

    def same_in(self, orders, text):
        """The run tells the same in these orders alone."""
        many = len(standing(deal_book(), rows(text)))
        for order in itertools.permutations(standing(deal_book(), rows(text)), many):
            with self.subTest(order=order):
                self.assertIs(unchanged(self, tells_same, deal_book(), rows(text), list(order)), order in orders)

    def test_none(self):
        self.same_in([()], "")
        self.same_in([()], "put:k0 0 0x")

    def test_one(self):
        self.same_in([(0,)], "late:k0 0 0!")

    def test_those_that_share_nothing(self):
        self.same_in([(0, 1), (1, 0)], "late:k0 add:k1 0 1 1! 0!")
        self.same_in([(0, 1), (1, 0)], "get:k0 get:k0 0 1 1! 0!")

    def test_a_read_of_another_one(self):
        self.same_in([(0, 1)], "put:k0 0 0! get:k0 1 1!")

    def test_a_read_of_none(self):
        self.same_in([(1, 0)], "put:k0 get:k0 0 0! 1 1!")
        self.same_in([(0, 1)], "get:k0 put:k0 1 1! 0 0!")

    def test_a_read_by_an_ask(self):
        self.same_in([(0, 1)], "add:k0 0 0! add:k0 1 1!")

    def test_who_wrote_last(self):
        self.same_in([(0, 1)], "put:k0 0 0! put:k0 1 1!")
        self.same_in([(0, 1, 2), (1, 0, 2)], "put:k0 0 0! put:k0 1 1! put:k0 2 2!")

    def test_who_wrote_each_key_last(self):
        text = "move:k9,k0 0 0! move:k9,k1 1 1! move:k9,k0 2 2! move:k9,k1 3 3!"
        self.same_in([(0, 1, 2, 3), (0, 1, 3, 2), (0, 2, 1, 3), (1, 0, 2, 3), (1, 0, 3, 2), (1, 3, 0, 2)], text)

    def test_reads_of_its_own_writes(self):
        self.same_in([(0, 1), (1, 0)], "own:k0 own:k1 0 1 0! 1!")
        self.same_in([(0, 1)], "own:k0 0 0! own:k0 1 1!")
        self.same_in([(0, 1, 2), (1, 0, 2), (1, 2, 0)], "own:k0 put:k1 0 1 0! 1! late:k1 2 2!")

    def test_one_that_saw_the_last_of_two(self):
        self.same_in([(0, 1, 2)], "put:k0 0 0! put:k0 1 1! get:k0 2 2!")
        self.same_in([(0, 1, 2)], "put:k0 0 0! get:k0 put:k0 1 2 2! 1!")

    def test_two_letters_that_stand_for_one_key(self):
        self.same_in([(0, 1)], "move:k0,k0 0 0! put:k0 1 1!")
        self.same_in([(0, 1)], "put:k0 0 0! move:k0,k0 1 1!")

    def test_a_ring(self):
        self.same_in([], "move:k0,k1 move:k1,k0 0 1 0! 1!")
        self.same_in([], "move:k0,k1 move:k1,k2 move:k2,k0 0 1 2 0! 1! 2!")

    def test_numbers_that_are_called_otherwise(self):
        self.same_in([(1, 3)], "put:k0 put:k0 0 1 1! 0! late:k0 2x get:k0 3 3!")
        self.same_in([(2, 1), (1, 2)], "put:k9 0x own:k0 own:k1 1 2 2! 1!")

    def test_one_that_is_off_is_not_looked_at(self):
        self.same_in([(0, 2), (2, 0)], "get:k5 put:k0 get:k1 1 1x 0 0! 2 2!")


class NoOrders(unittest.TestCase):

    def is_none(self, text, order):
        for call in (one_by_one, tells_same):
            refused(self, NoOrder, call, deal_book(), rows(text), order)

    def test_no_list(self):
        for thing in odd_things() + [(0,), {0: 0}, {0}, "0", 0, range(1), iter([0]), Odd()]:
            self.is_none("get:k0 0 0!", thing)
        for thing in ((), {}, set(), "", None, 0, False, Odd()):
            self.is_none("", thing)

    def test_truths_for_numbers(self):
        text = "get:k0 get:k0 0 1 0! 1!"
        for thing in ([False, True], [0, True], [False, 1]):
            self.is_none(text, thing)

    def test_things_that_are_no_numbers(self):
        for thing in odd_things():
            self.is_none("get:k0 0 0!", [thing])
            self.is_none("get:k0 0 0!", [0, thing])

    def test_one_twice_left_out_or_too_many(self):
        for thing in ([0], [1], [], [0, 0], [1, 1], [0, 1, 0], [0, 1, 1], [0, 1, 2], [0, 2], [-1, 0], [1, -2]):
            self.is_none("get:k0 get:k0 0 1 0! 1!", thing)

    def test_one_that_was_called_off_or_dropped(self):
        text = "get:k0 put:k0 put:k0 0 1 2 0! 2! 1! get:k0 3x"
        self.assertEqual(standing(deal_book(), rows(text)), [0, 2])
        for thing in ([0, 1], [0, 1, 2], [0, 2, 1], [0, 2, 3], [0, 3], [2, 3]):
            self.is_none(text, thing)
        for thing in ([0], [1]):
            self.is_none("get:k0 0x", thing)

    def test_of_none(self):
        self.is_none("get:k0 0 0!", [])
        self.assertEqual(one_by_one(deal_book(), [], []), [])

    def test_no_run_goes_ahead(self):
        for run, row in no_runs():
            for order in ([], [0], None, [True], Odd(), [Odd()]):
                no_run(self, row, one_by_one, deal_book(), run, order)
                no_run(self, row, tells_same, deal_book(), run, order)

    def test_it_stands_under_book_error(self):
        self.assertTrue(issubclass(NoOrder, BookError))


class AsTheJudgeTells(unittest.TestCase):

    def test_all_orders_of_up_to_four(self):
        told = {True: 0, False: 0}
        for book, run in chance_runs(250):
            judge = Judge(book, run)
            for order in itertools.permutations(judge.stand) if len(judge.stand) <= 4 else ():
                order = list(order)
                alone = unchanged(self, one_by_one, book, run, order)
                self.assertEqual(alone, judge.one_by_one(order))
                self.assertIs(is_run(book, alone), True)
                self.assertEqual(standing(book, alone), list(range(len(order))))
                same = unchanged(self, tells_same, book, run, order)
                self.assertIs(same, judge.tells_same(order), (book, run, order))
                told[same] += 1
        self.assertGreater(min(told.values()), 100)

    def test_for_each_order_of_a_run_they_do(self):
        for book, run in chance_runs(300):
            for order in Judge(book, run).orders() if len(standing(book, run)) <= 4 else [order_of(book, run)]:
                if order is not None:
                    self.assertIs(is_order(book, run, order), True)
                    self.assertIs(tells_same(book, run, order), True, (book, run, order))

    def test_one_by_one_each_must_come_ahead_of_later_ones_alone(self):
        for book, run in chance_runs(60):
            alone = one_by_one(book, run, standing(book, run)[::-1])
            self.assertTrue(all(one < other for one, other, _, _ in must(book, alone)))

    def test_called_otherwise(self):
        """Point 3 (g)."""
        for book, run in chance_runs(60):
            other, again, _ = called_otherwise(book, run)
            order = standing(book, run)[::-1]
            self.assertEqual(tells_same(other, again, order), tells_same(book, run, order))
            self.assertEqual([row[:1] if row[0] == "begin" else row for row in one_by_one(other, again, order)],
                             [row[:1] if row[0] == "begin" else row for row in one_by_one(book, run, order)])
            self.assertEqual([[at for _, at in row[2]] for row in one_by_one(other, again, order) if row[0] == "begin"],
                             [[at for _, at in row[2]] for row in one_by_one(book, run, order) if row[0] == "begin"])


if __name__ == "__main__":
    unittest.main()
