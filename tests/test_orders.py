"""Orders and rings (point 16)."""

import itertools
import unittest

from snapsure.orders import is_order, is_ring, order_of, ring_of
from tests.chance import called_otherwise, chance_runs, script
from tests.judge import Judge
from tests.samples import Odd, deal_book, no_run, no_runs, odd_things, refuses_no_runs, unchanged

SKEW = "move:k0,k1 move:k1,k0 0 1 0! 1!"
RING_OF_THREE = "move:k0,k1 move:k1,k2 move:k2,k0 0 1 2 0! 1! 2!"
# 0 past 3 past 2 past 1 past 0, and a ring of two beside it.
RING_OF_FOUR = "move:k0,k1 move:k1,k2 move:k2,k3 move:k3,k0 0 1 2 3 0! 1! 2! 3!"


def ask(call, text, *handed):
    return call(deal_book(), script(deal_book(), text), *handed)


class OrderTest(unittest.TestCase):

    def order_is(self, expected, text):
        self.assertEqual(unchanged(self, order_of, deal_book(), script(deal_book(), text)), expected)

    def ring_is(self, expected, text):
        self.assertEqual(unchanged(self, ring_of, deal_book(), script(deal_book(), text)), expected)


class OrderOf(OrderTest):

    def test_none_standing(self):
        self.order_is([], "")
        self.order_is([], "put:k0 put:k0 0x 1x")

    def test_one(self):
        self.order_is([0], "put:k0 0 0!")

    def test_numbers_where_none_must(self):
        self.order_is([0, 1, 2, 3], "get:k0 get:k0 get:k0 get:k0 3 3! 1 1! 2 2! 0 0!")

    def test_whoever_must_stands_ahead(self):
        self.order_is([1, 0], "put:k0 get:k0 0 0! 1 1!")
        self.order_is([2, 1, 0], "put:k0 move:k0,k1 get:k1 0 0! 1 1! 2 2!")

    def test_again_and_again_the_least_number(self):
        self.order_is([1, 2, 0, 3], "put:k0 get:k1 get:k0 get:k2 0 1 2 3 0! 1! 2! 3!")
        self.order_is([0, 2, 1, 3, 5, 4, 6],
                      "get:k9 put:k0 get:k0 get:k8 put:k1 get:k1 get:k7 1 1! 4 4! 0 0! 2 2! 3 3! 5 5! 6 6!")

    def test_without_those_that_are_off(self):
        self.order_is([1, 3], "get:k0 put:k0 put:k0 1 1! 2 2! 0x get:k0 3 3!")

    def test_no_order_where_there_is_a_ring(self):
        for text in (SKEW, RING_OF_THREE, RING_OF_FOUR, SKEW + " get:k9 2 2!"):
            self.order_is(None, text)

    def test_one_called_off_leaves_no_ring(self):
        self.order_is([0], "move:k0,k1 move:k1,k0 0 1 0! 1x")

    def test_the_list_is_a_new_one(self):
        run = script(deal_book(), "get:k0 0 0!")
        order_of(deal_book(), run).append(9)
        self.assertEqual(order_of(deal_book(), run), [0])

    def test_by_name(self):
        self.assertEqual(order_of(run=[], book=deal_book()), [])
        self.assertIsNone(ring_of(run=[], book=deal_book()))
        self.assertIs(is_order(thing=[], run=[], book=deal_book()), True)
        self.assertIs(is_ring(thing=[], run=[], book=deal_book()), False)


class RingOf(OrderTest):

    def test_none(self):
        self.ring_is(None, "")
        self.ring_is(None, "put:k0 0 0!")
        self.ring_is(None, "move:k0,k1 0 0! move:k1,k0 1 1!")
        self.ring_is(None, "move:k0,k1 move:k1,k0 0 1 0! 1x")

    def test_of_two(self):
        self.ring_is([0, 1], SKEW)

    def test_the_least_number_first(self):
        self.ring_is([0, 2, 1], RING_OF_THREE)
        self.ring_is([1, 3], "get:k5 move:k0,k1 get:k5 move:k1,k0 1 3 0 0! 2 2! 1! 3!")
        self.ring_is([1, 2, 3], "get:k9 move:k2,k0 move:k1,k2 move:k0,k1 1 2 3 0 0! 1! 2! 3!")

    def test_of_fewest(self):
        self.ring_is([0, 3, 2, 1], RING_OF_FOUR)
        self.ring_is([3, 4], "move:k0,k1 move:k1,k2 move:k2,k0 move:k3,k4 move:k4,k3 0 1 2 3 4 0! 1! 2! 3! 4!")
        self.ring_is([0, 1], "move:k3,k4 move:k4,k3 move:k0,k1 move:k1,k2 move:k2,k0 0 1 2 3 4 0! 1! 2! 3! 4!")

    def test_of_fewest_through_one_that_is_in_several(self):
        # 0 past 2 past 1 past 0, and 1 and 2 past one another by keys of their own.
        book = ([("k", True)], [("d", [(sign, "k") for sign in "abcd"],
                                 [("read", "a"), ("write", "b"), ("read", "c"), ("write", "d")])])
        run = script(book, "d:k0,k1,k7,k8 d:k1,k2,k3,k4 d:k2,k0,k4,k3 0 1 2 0! 1! 2!")
        self.assertEqual(ring_of(book, run), [1, 2])
        self.assertIs(is_ring(book, run, [0, 2, 1]), True)

    def test_the_list_is_a_new_one(self):
        run = script(deal_book(), SKEW)
        ring_of(deal_book(), run).clear()
        self.assertEqual(ring_of(deal_book(), run), [0, 1])


class IsOrder(OrderTest):

    def test_orders(self):
        text = "put:k0 get:k0 get:k9 0 1 2 0! 1! 2!"
        orders = [list(row) for row in itertools.permutations(range(3)) if row.index(1) < row.index(0)]
        for row in itertools.permutations(range(3)):
            self.assertIs(unchanged(self, is_order, deal_book(), script(deal_book(), text), list(row)),
                          list(row) in orders)

    def test_of_none_where_none_stands(self):
        self.assertIs(ask(is_order, "", []), True)
        self.assertIs(ask(is_order, "get:k0 0x", []), True)

    def test_of_none_where_one_stands(self):
        self.assertIs(ask(is_order, "get:k0 0 0!", []), False)

    def test_no_list(self):
        for thing in odd_things() + [(0,), {0: 0}, {0}, "0", b"\x00", 0, range(1), iter([0])]:
            self.assertIs(ask(is_order, "get:k0 0 0!", thing), False)
        self.assertIs(ask(is_order, "", ()), False)
        self.assertIs(ask(is_order, "", None), False)

    def test_truths_for_numbers(self):
        text = "get:k0 get:k0 0 1 0! 1!"
        self.assertIs(ask(is_order, text, [0, 1]), True)
        for thing in ([False, True], [0, True], [False, 1]):
            self.assertIs(ask(is_order, text, thing), False)

    def test_things_that_are_no_numbers(self):
        for thing in odd_things():
            if not isinstance(thing, int):
                self.assertIs(ask(is_order, "get:k0 0 0!", [thing]), False)
                self.assertIs(ask(is_order, "get:k0 0 0!", [0, thing]), False)

    def test_one_twice_left_out_or_too_many(self):
        text = "get:k0 get:k0 0 1 0! 1!"
        for thing in ([0], [1], [], [0, 0], [1, 1], [0, 1, 0], [0, 1, 1], [0, 1, 2], [0, 2], [-1, 0], [0, 1, Odd()]):
            self.assertIs(ask(is_order, text, thing), False)

    def test_one_that_does_not_stand(self):
        text = "get:k0 put:k0 put:k0 0 1 2 0! 2! 1!"
        self.assertIs(ask(is_order, text, [0, 2]), True)
        for thing in ([0, 1], [0, 1, 2], [0, 2, 1]):
            self.assertIs(ask(is_order, text, thing), False)

    def test_none_where_there_is_a_ring(self):
        for row in itertools.permutations(range(3)):
            self.assertIs(ask(is_order, RING_OF_THREE, list(row)), False)


class IsRing(OrderTest):

    def test_a_ring_and_one_begun_elsewhere(self):
        for thing in ([0, 2, 1], [2, 1, 0], [1, 0, 2]):
            self.assertIs(unchanged(self, is_ring, deal_book(), script(deal_book(), RING_OF_THREE), thing), True)
        for thing in ([0, 1, 2], [1, 2, 0], [2, 0, 1]):
            self.assertIs(ask(is_ring, RING_OF_THREE, thing), False)
        self.assertIs(ask(is_ring, SKEW, [1, 0]), True)

    def test_one_that_is_not_of_fewest(self):
        text = "move:k0,k1 move:k1,k2 move:k2,k0 move:k3,k4 move:k4,k3 0 1 2 3 4 0! 1! 2! 3! 4!"
        self.assertIs(ask(is_ring, text, [0, 2, 1]), True)
        self.assertIs(ask(is_ring, text, [4, 3]), True)

    def test_of_one_or_none(self):
        for thing in ([], [0], [1]):
            self.assertIs(ask(is_ring, SKEW, thing), False)

    def test_where_none_stands(self):
        for thing in ([], [0], [0, 1]):
            self.assertIs(ask(is_ring, "", thing), False)

    def test_no_list(self):
        for thing in odd_things() + [(0, 1), {0: 1, 1: 0}, "01", range(2), iter([0, 1])]:
            self.assertIs(ask(is_ring, SKEW, thing), False)

    def test_truths_for_numbers(self):
        for thing in ([False, True], [0, True], [False, 1]):
            self.assertIs(ask(is_ring, SKEW, thing), False)

    def test_things_that_are_no_numbers(self):
        for thing in odd_things():
            self.assertIs(ask(is_ring, SKEW, [0, thing]), False)
            self.assertIs(ask(is_ring, SKEW, [thing, 1]), False)

    def test_one_twice_left_out_or_too_many(self):
        for thing in ([0, 1, 0, 1], [0, 1, 0], [0, 0], [0, 1, 2], [0, 2], [-2, -1], [1, -2], [10 ** 60, 0]):
            self.assertIs(ask(is_ring, SKEW, thing), False)
        for thing in ([0, 2], [2, 1], [0, 2, 1, 0], [0, 2, 1, 0, 2, 1]):
            self.assertIs(ask(is_ring, RING_OF_THREE, thing), False)

    def test_one_that_does_not_stand(self):
        self.assertIs(ask(is_ring, "move:k0,k1 move:k1,k0 0 1 0! 1x", [0, 1]), False)

    def test_where_there_is_an_order(self):
        for thing in ([0, 1], [1, 0]):
            self.assertIs(ask(is_ring, "add:k0 0 0! add:k0 1 1!", thing), False)


class NoRuns(unittest.TestCase):

    def test_what_is_no_run(self):
        refuses_no_runs(self, order_of)
        refuses_no_runs(self, ring_of)

    def test_ahead_of_all_else(self):
        for run, row in no_runs():
            for thing in ([], [0, 1], None, Odd(), [Odd()]):
                no_run(self, row, is_order, deal_book(), run, thing)
                no_run(self, row, is_ring, deal_book(), run, thing)


class AsTheJudgeTells(unittest.TestCase):

    def test_orders_and_rings_by_chance(self):
        rings = []
        for book, run in chance_runs(300):
            judge = Judge(book, run)
            orders, all_rings = judge.orders(), judge.rings()
            self.assertEqual(unchanged(self, order_of, book, run), orders[0] if orders else None, (book, run))
            self.assertEqual(bool(orders), not all_rings)
            ring = unchanged(self, ring_of, book, run)
            self.assertEqual(ring is None, not all_rings)
            if all_rings:
                self.assertIn(ring, all_rings)
                self.assertEqual(len(ring), min(len(one) for one in all_rings))
                self.assertEqual(ring[0], min(ring))
            rings += all_rings
        self.assertTrue({2, 3} <= {len(ring) for ring in rings})

    def test_all_lists_of_numbers(self):
        found = 0
        for book, run in chance_runs(120, most=4):
            judge = Judge(book, run)
            orders, rings = judge.orders(), judge.rings()
            found += len(rings)
            for many in range(len(judge.begin) + 1):
                for row in itertools.product(judge.begin, repeat=many):
                    self.assertIs(is_order(book, run, list(row)), list(row) in orders)
                    self.assertIs(is_ring(book, run, list(row)), list(row) in rings)
        self.assertGreater(found, 10)


class CalledOtherwise(unittest.TestCase):
    """Point 3 (g)."""

    def test_all_called_otherwise(self):
        for book, run in chance_runs(60):
            other, again, _ = called_otherwise(book, run)
            self.assertEqual(order_of(other, again), order_of(book, run))
            self.assertEqual(ring_of(other, again) is None, ring_of(book, run) is None)


if __name__ == "__main__":
    unittest.main()
