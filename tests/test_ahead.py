"""Who must come ahead of whom (point 15), and who is between (point 18)."""

import itertools
import unittest

from snapsure.ahead import between, must
from tests.chance import called_otherwise, chance_runs, script
from tests.judge import Judge
from tests.samples import deal_book, refuses_no_runs, unchanged

K0, K1, L0 = ("k", 0), ("k", 1), ("l", 0)


def small(*steps):
    """A book of one dealing of two letters, with steps like `read a`, and one that writes one key."""
    letters = [(sign, "k") for sign in "ab" if any(step.endswith(sign) for step in steps)]
    return ([("k", True)], [("d", letters, [tuple(step.split(" ")) for step in steps]),
                            ("put", [("a", "k")], [("write", "a")])])


class AheadTest(unittest.TestCase):

    def must_be(self, expected, text, book=None):
        book = deal_book() if book is None else book
        self.assertEqual(unchanged(self, must, book, script(book, text)), expected)

    def between_are(self, expected, text):
        self.assertEqual(unchanged(self, between, deal_book(), script(deal_book(), text)), expected)


class Must(AheadTest):

    def test_nobody(self):
        self.must_be([], "")
        self.must_be([], "get:k0 0 0! get:k0 1 1!")
        self.must_be([], "add:k0 late:k1 0 1 1! 0!")
        self.must_be([], "add:k0 0 0!")

    def test_seen(self):
        self.must_be([(0, 1, "seen", K0)], "put:k0 0 0! get:k0 1 1!")
        self.must_be([(1, 2, "seen", K0)], "get:k7 put:k0 1 1! get:k0 2 0 0! 2!")

    def test_seen_by_several(self):
        self.must_be([(0, 1, "seen", K0), (0, 2, "seen", K0)], "put:k0 0 0! get:k0 get:k0 2 1 1! 2!")

    def test_seen_of_the_last_one_alone(self):
        self.must_be([(0, 1, "over", K0), (1, 2, "seen", K0)], "put:k0 0 0! put:k0 1 1! get:k0 2 2!")

    def test_over(self):
        self.must_be([(0, 1, "over", K0)], "put:k0 0 0! put:k0 1 1!")

    def test_over_beside_others(self):
        self.must_be([(1, 2, "over", K0)], "get:k9 put:k0 1 1! put:k0 2 0 0! 2!")

    def test_over_each_earlier_one(self):
        self.must_be([(0, 1, "over", K0), (0, 2, "over", K0), (1, 2, "over", K0)],
                     "put:k0 0 0! put:k0 1 1! put:k0 2 2!")

    def test_past(self):
        self.must_be([(0, 1, "past", K0)], "get:k0 put:k0 0 1 0! 1!")
        self.must_be([(0, 1, "past", K0)], "get:k0 put:k0 1 1! 0 0!")
        self.must_be([(1, 0, "past", K0)], "put:k0 get:k0 0 0! 1 1!")

    def test_past_of_one_that_begins_behind_its_end(self):
        self.must_be([(0, 1, "past", K0)], "get:k0 0 0! put:k0 1 1!")

    def test_past_of_each_later_one(self):
        self.must_be([(0, 1, "past", K0), (0, 2, "past", K0), (1, 2, "over", K0)],
                     "get:k0 0 0! put:k0 1 1! put:k0 2 2!")

    def test_no_past_of_one_that_ended_ahead_of_the_begin(self):
        self.must_be(
            [(0, 1, "over", K0), (0, 3, "over", K0), (1, 2, "seen", K0), (1, 3, "over", K0), (2, 3, "past", K0)],
            "put:k0 0 0! put:k0 1 1! get:k0 put:k0 2 3 3! 2!")

    def test_seen_and_past_by_one_key(self):
        self.must_be([(0, 1, "seen", K0), (0, 2, "over", K0), (1, 2, "past", K0)],
                     "put:k0 0 0! get:k0 1 put:k0 2 2! 1!")

    def test_all_at_once(self):
        self.must_be([(0, 1, "over", K0), (0, 1, "past", K0), (0, 1, "seen", K0)], "add:k0 0 0! add:k0 1 1!")

    def test_each_once(self):
        book = small("read a", "read b", "write a", "write b")
        self.must_be([(0, 1, "over", K0), (0, 1, "past", K0), (0, 1, "seen", K0)],
                     "d:k0,k0 0 0! d:k0,k0 1 1!", book)

    def test_an_ask_as_a_reading(self):
        self.must_be([(0, 1, "over", K0), (0, 1, "seen", K0)], "put:k0 0 0! add:k0 1 1!")
        self.must_be([(0, 1, "over", K0), (0, 1, "past", K0)], "add:k0 0 0! put:k0 1 1!")

    def test_an_ask_as_a_writing(self):
        self.must_be([(0, 1, "seen", K0)], "add:k0 0 0! get:k0 1 1!")
        self.must_be([(0, 1, "past", K0)], "get:k0 add:k0 1 1! 0 0!")

    def test_reads_behind_a_write_of_its_own(self):
        self.must_be([(0, 1, "over", K0)], "own:k0 0 0! put:k0 1 1!")
        self.must_be([(0, 1, "over", K0)], "put:k0 0 0! own:k0 1 1!")
        self.must_be([(0, 1, "over", K0)], "own:k0 0 0! own:k0 1 1!")

    def test_reads_ahead_of_a_write_of_its_own(self):
        self.must_be([(0, 1, "over", K0), (0, 1, "past", K0)], "late:k0 0 0! put:k0 1 1!")
        self.must_be([(0, 1, "over", K0), (0, 1, "seen", K0)], "put:k0 0 0! late:k0 1 1!")

    def test_reads_behind_an_ask_of_its_own(self):
        book = small("ask a", "read a", "ask a")
        self.must_be([(0, 1, "over", K0), (0, 1, "past", K0)], "d:k0 0 0! put:k0 1 1!", book)

    def test_two_letters_that_stand_for_one_key(self):
        self.must_be([(0, 1, "over", K0), (0, 1, "past", K0)], "move:k0,k0 0 0! put:k0 1 1!")
        self.must_be([(0, 1, "over", K0), (0, 1, "seen", K0)], "put:k0 0 0! move:k0,k0 1 1!")
        book = small("write b", "read a")
        self.must_be([(0, 1, "over", K0)], "d:k0,k0 0 0! put:k0 1 1!", book)
        self.must_be([(0, 1, "past", K0)], "d:k0,k1 0 0! put:k0 1 1!", book)
        self.must_be([(0, 1, "over", K1)], "d:k0,k1 0 0! put:k1 1 1!", book)

    def test_several_keys_of_several_kinds(self):
        self.must_be([(0, 1, "over", L0), (0, 1, "over", ("m", 0)), (0, 1, "past", L0), (0, 1, "seen", L0)],
                     "mix:k0,m0,l0 0 0! mix:k0,m0,l0 1 1!")
        self.must_be([(0, 1, "over", L0), (0, 1, "past", L0), (0, 1, "seen", L0)],
                     "mix:k0,m0,l0 0 0! mix:k0,m1,l0 1 1!")

    def test_keys_of_two_kinds_with_one_number_are_two(self):
        book = ([("k", True), ("m", True)], [("get", [("a", "k")], [("read", "a")]),
                                             ("put", [("a", "m")], [("write", "a")])])
        self.must_be([], "put:m1 0 0! get:k0 put:m0 1 2 2! 1!", book)
        self.must_be([], "put:m0 0 0! get:k0 1 1!", book)

    def test_sorted_by_numbers_not_by_figures(self):
        book = small("write a", "write b")
        self.must_be([(0, 1, "over", ("k", 2)), (0, 1, "over", ("k", 10))], "d:k10,k2 0 0! d:k2,k10 1 1!", book)
        ends = " ".join(f"put:k0 {at} {at}!" for at in range(12))
        self.must_be([(one, other, "over", K0) for one, other in itertools.combinations(range(12), 2)], ends)

    def test_nothing_of_those_that_were_called_off(self):
        self.must_be([], "add:k0 add:k0 0 1 0! 1!")
        self.must_be([(0, 2, "over", K0), (0, 2, "past", K0)], "add:k0 add:k0 0 1 0! 1! put:k0 2 2!")
        self.must_be([(1, 2, "seen", K0)], "add:k0 add:k0 0 1 1! 0! get:k0 2 2!")

    def test_nothing_of_those_that_were_dropped(self):
        self.must_be([], "put:k0 0 0x get:k0 1 1!")
        self.must_be([], "get:k0 put:k0 0 1 1! 0x")
        self.must_be([], "get:k0 add:k0 0 1 1x 0!")
        self.must_be([(0, 2, "over", K0)], "put:k0 0 0! late:k0 1 1x put:k0 2 2!")

    def test_past_of_several_readers_and_writers(self):
        self.must_be([(0, 2, "past", K0), (1, 2, "past", K1), (1, 3, "past", K1), (2, 3, "over", K1)],
                     "d:k0 d:k1 0 0! 1 1! put:k0,k1 2 2! put:k1,k4 3 3!",
                     ([("k", True)], [("d", [("a", "k")], [("read", "a")]),
                                      ("put", [("a", "k"), ("b", "k")], [("write", "a"), ("write", "b")])]))

    def test_the_list_is_a_new_one(self):
        run = script(deal_book(), "add:k0 0 0! add:k0 1 1!")
        must(deal_book(), run).clear()
        self.assertEqual(len(must(deal_book(), run)), 3)

    def test_by_name(self):
        self.assertEqual(must(run=[], book=deal_book()), [])
        self.assertEqual(between(run=[], book=deal_book()), [])

    def test_what_is_no_run(self):
        refuses_no_runs(self, must)


class Between(AheadTest):

    def test_by_one_and_the_same(self):
        self.between_are([0, 1], "move:k0,k1 move:k1,k0 0 1 0! 1!")

    def test_by_two_others(self):
        self.between_are([0], "move:k0,k1 put:k0 get:k1 0 1 2 1! 2! 0!")
        self.between_are([2], "put:k0 get:k1 move:k0,k1 2 0 1 1! 2! 0!")

    def test_of_three_in_a_ring(self):
        self.between_are([0, 1, 2], "move:k0,k1 move:k1,k2 move:k2,k0 0 1 2 0! 1! 2!")

    def test_none(self):
        self.between_are([], "")
        self.between_are([], "move:k0,k1 0 0! move:k1,k0 1 1!")
        self.between_are([], "get:k0 put:k0 0 1 0! 1!")

    def test_on_one_side_alone(self):
        self.between_are([], "move:k0,k1 put:k0 0 1 1! 0!")
        self.between_are([], "move:k0,k1 get:k1 0 1 1! 0!")

    def test_none_of_those_that_do_not_overlap_it(self):
        self.between_are([], "move:k0,k1 get:k1 0 1 1! 0! put:k0 2 2!")
        self.between_are([], "get:k1 0 0! move:k0,k1 put:k0 1 2 2! 1!")
        self.between_are([], "get:k1 0 0! move:k0,k1 1 1! put:k0 2 2!")

    def test_seen_and_over_are_no_past(self):
        self.between_are([], "put:k0 0 0! late:k0 1 1! get:k0 2 2!")
        self.between_are([], "get:k1 put:k0 1 1! move:k0,k1 2 0 2! 0!")

    def test_none_of_those_that_are_off(self):
        self.between_are([], "move:k0,k1 move:k1,k0 0 1 0! 1x")
        self.between_are([], "move:k0,k1 put:k0 get:k1 0 1 2 1! 2x 0!")
        self.between_are([], "move:k0,k1 put:k0 get:k1 0 1 2 1! 2! 0x")
        self.between_are([], "put:k0 move:k0,k1 put:k0 get:k1 0 1 2 0! 2! 3 3! 1x")

    def test_rising(self):
        self.between_are([0, 1, 2, 3], "move:k0,k1 move:k2,k3 move:k3,k2 move:k1,k0 0 1 2 3 3! 2! 1! 0!")

    def test_the_list_is_a_new_one(self):
        run = script(deal_book(), "move:k0,k1 move:k1,k0 0 1 0! 1!")
        between(deal_book(), run).clear()
        self.assertEqual(between(deal_book(), run), [0, 1])

    def test_what_is_no_run(self):
        refuses_no_runs(self, between)


class AsTheJudgeTells(unittest.TestCase):

    def test_runs_by_chance(self):
        words, found = set(), 0
        for book, run in chance_runs(400):
            judge = Judge(book, run)
            self.assertEqual(unchanged(self, must, book, run), judge.must(), (book, run))
            self.assertEqual(unchanged(self, between, book, run), judge.between(), (book, run))
            words.update(row[2] for row in judge.must())
            found += bool(judge.between())
        self.assertEqual(words, {"seen", "over", "past"})
        self.assertGreater(found, 30)

    def test_in_each_ring_one_is_between_its_neighbours(self):
        """Points 3 (d) and 18."""
        found = 0
        for book, run in chance_runs(900):
            judge = Judge(book, run)
            told = between(book, run)
            for ring in judge.rings():
                found += 1
                inside = [one for last, one, following in zip(ring[-1:] + ring[:-1], ring, ring[1:] + ring[:1])
                          if judge.past(last, one) and judge.past(one, following)]
                self.assertTrue(inside, (book, run, ring))
                self.assertTrue(set(inside) <= set(told))
        self.assertGreater(found, 100)


class CalledOtherwise(unittest.TestCase):
    """Point 3 (g)."""

    def test_all_called_otherwise(self):
        for book, run in chance_runs(60):
            other, again, kinds = called_otherwise(book, run)
            self.assertEqual(must(other, again),
                             sorted((one, at, word, (kinds[key[0]], key[1])) for one, at, word, key in must(book, run)))
            self.assertEqual(between(other, again), between(book, run))


if __name__ == "__main__":
    unittest.main()
