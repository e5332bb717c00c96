"""Spans (point 14)."""

import itertools
import unittest

from snapsure.spans import Span, spans_of
from tests.chance import chance_runs, script
from tests.judge import Judge
from tests.samples import Alike, Odd, deal_book, odd_things, refuses_no_runs, unchanged


def all_spans(most):
    return [(first, last) for first, last in itertools.combinations(range(most), 2)]


class Spans(unittest.TestCase):

    def test_values(self):
        span = Span(3, 8)
        self.assertEqual((span.first, span.last), (3, 8))
        self.assertEqual((Span(last=9, first=0).first, Span(last=9, first=0).last), (0, 9))

    def test_shown(self):
        self.assertEqual(repr(Span(3, 8)), "Span(3, 8)")
        self.assertEqual(str(Span(3, 8)), "3-8")
        self.assertEqual(f"{Span(0, 10)!r} {Span(0, 10)}", "Span(0, 10) 0-10")
        self.assertEqual(str([Span(0, 1)]), "[Span(0, 1)]")

    def test_equal_to_one_with_the_same_numbers(self):
        for one, other in itertools.product(all_spans(5), repeat=2):
            self.assertIs(Span(*one) == Span(*other), one == other)
            self.assertIs(Span(*one) != Span(*other), one != other)

    def test_equal_to_nothing_else(self):
        for thing in odd_things() + [(3, 8), [3, 8], {3: 8}, "3-8", "Span(3, 8)", 3, 8, Odd(), Alike()]:
            self.assertIs(Span(3, 8) == thing, False)

    def test_equal_to_nothing_else_with_such_values(self):
        class Other:
            first, last = 3, 8
        self.assertIs(Span(3, 8) == Other(), False)

    def test_overlaps(self):
        for one, other in itertools.product(all_spans(6), repeat=2):
            shared = set(range(*one)) & set(range(*other))
            with self.subTest(f"{one} {other}"):
                self.assertIs(Span(*one).overlaps(Span(*other)), bool(shared))

    def test_where_the_one_begins_in_the_row_in_which_the_other_one_ends(self):
        self.assertIs(Span(3, 8).overlaps(Span(8, 9)), False)
        self.assertIs(Span(8, 9).overlaps(Span(3, 8)), False)
        self.assertIs(Span(3, 8).overlaps(Span(7, 9)), True)
        self.assertIs(Span(7, 9).overlaps(other=Span(3, 8)), True)

    def test_one_within_another_one(self):
        self.assertIs(Span(0, 9).overlaps(Span(4, 5)), True)
        self.assertIs(Span(4, 5).overlaps(Span(0, 9)), True)

    def test_asking_changes_nothing(self):
        one, other = Span(3, 8), Span(4, 9)
        one.overlaps(other)
        str(one), repr(one), one == other
        self.assertEqual((one.first, one.last, other.first, other.last), (3, 8, 4, 9))


class SpansOf(unittest.TestCase):

    def shown(self, text):
        return [str(span) for span in unchanged(self, spans_of, deal_book(), script(deal_book(), text))]

    def test_of_one_that_ends(self):
        self.assertEqual(self.shown("get:k0 0 0!"), ["0-2"])

    def test_of_one_that_is_dropped(self):
        self.assertEqual(self.shown("get:k0 0x"), ["0-1"])
        self.assertEqual(self.shown("late:k0 0. 0x"), ["0-2"])

    def test_of_one_that_is_called_off_as_it_ends(self):
        self.assertEqual(self.shown("put:k0 put:k0 0 1 0! 1!"), ["0-4", "1-5"])

    def test_by_number(self):
        self.assertEqual(self.shown("get:k0 get:k0 move:k1,k2 1 2. 1! 0 get:k3 2. 3x 2! 0!"),
                         ["0-11", "1-5", "2-10", "7-9"])

    def test_of_none(self):
        self.assertEqual(spans_of(deal_book(), []), [])
        self.assertEqual(spans_of(run=[], book=deal_book()), [])

    def test_spans_are_told(self):
        found = spans_of(deal_book(), script(deal_book(), "get:k0 get:k1 0 1 0! 1!"))
        self.assertEqual(found, [Span(0, 4), Span(1, 5)])
        self.assertTrue(all(type(span) is Span for span in found))

    def test_the_list_and_the_spans_are_new_ones(self):
        run = script(deal_book(), "get:k0 get:k1 0 1 0! 1!")
        found = spans_of(deal_book(), run)
        found[0].first = 9
        found.clear()
        self.assertEqual(spans_of(deal_book(), run), [Span(0, 4), Span(1, 5)])

    def test_what_is_no_run(self):
        refuses_no_runs(self, spans_of)

    def test_as_the_judge_tells(self):
        for book, run in chance_runs(100):
            judge = Judge(book, run)
            expected = [Span(judge.begin[number], judge.close[number]) for number in range(len(judge.begin))]
            self.assertEqual(unchanged(self, spans_of, book, run), expected)
            for one, other in itertools.permutations(judge.begin, 2):
                self.assertIs(expected[one].overlaps(expected[other]), judge.overlap(one, other))


if __name__ == "__main__":
    unittest.main()
