"""Papers of asks (point 24), and what they promise (point 3 (e))."""

import copy
import itertools
import unittest

from snapsure.askpapers import ask_paper, is_ask_paper
from snapsure.asks import all_picks, asked
from snapsure.errors import StepError, TooMany
from snapsure.settling import settled
from snapsure.splits import is_split
from snapsure.tables import is_table, table_of
from tests.chance import book_otherwise, chance_books
from tests.samples import Alike, Odd, book_of, deal_book, odd_things, refused, told_of, unchanged
from tests.search import ring_book


def bare_book(many):
    """A book of so many bare places, each of which alone goes wrong with writers of its own key."""
    kinds = [(sign, True) for sign in "klmnop"]
    dealings = [("d" + sign, [("a", sign), ("b", sign)], [("read", "a"), ("write", "b")]) for sign in "klmnop"[:many]]
    if many == 7:
        dealings.append(("r", [("a", "k")], [("read", "a")]))
    return (kinds, dealings)


def two_ways():
    """f and g read what the other one writes: either can be asked."""
    return book_of(f="a:k b:m, read a, write b", g="a:m b:k, read a, write b")


def three_of_four():
    """A book of four bare places, two of which must be picked."""
    return book_of(d="a:k b:k, read a, write b", f="a:m b:p, read a, write b", g="a:p b:m, read a, write b",
                   r="a:n, read a")


class Papers(unittest.TestCase):

    def paper_is(self, expected, book, thing):
        self.assertIs(told_of(self, is_ask_paper, book, thing), expected)


class AskPaper(Papers):

    def paper_of(self, book):
        paper = unchanged(self, ask_paper, book)
        self.assertEqual((type(paper), len(paper)), (tuple, 3))
        self.paper_is(True, book, paper)
        self.assertEqual(paper[1], table_of(asked(book, paper[0])))
        return paper

    def test_of_sure_books(self):
        for book in (book_of(d="a:k, ask a"), book_of(f="a:k, read a", w="a:k, write a"),
                     book_of(d="a:k b:m, read a, read b")):
            self.assertEqual(self.paper_of(book), ([], table_of(book), []))

    def test_of_one_to_six_bare_places(self):
        for many in range(1, 7):
            book = bare_book(many)
            self.assertEqual(len(all_picks(book)), many)
            picks, _, runs = self.paper_of(book)
            self.assertEqual(picks, all_picks(book))
            self.assertEqual(len(runs), 2 ** many - 1)

    def test_fewer_than_all(self):
        self.assertEqual(self.paper_of(two_ways())[0], [("f", "a")])
        self.assertEqual(self.paper_of(three_of_four())[0], [("d", "a"), ("f", "a")])
        for many in (3, 6):
            picks, _, runs = self.paper_of(ring_book(many))
            self.assertEqual((picks, len(runs)), ([("first", "a")], 1))
            self.assertEqual(runs[0][0], [])

    def test_of_as_few_the_first_that_sorted_lists_have(self):
        self.assertEqual(self.paper_of(book_of(z="a:k b:m, read a, write b", b="a:m b:k, read a, write b"))[0],
                         [("b", "a")])
        book = book_of(r="a:k, read a", f="z:k b:m, read z, write b", g="a:m b:k, read a, write b")
        self.assertEqual(self.paper_of(book)[0], [("f", "z")])

    def test_a_place_with_one_key(self):
        book = book_of(f="z:l a:l b:n, read a, read z, write b", g="a:n b:l, read a, write b")
        picks, table, runs = self.paper_of(book)
        self.assertEqual((picks, table, len(runs)), ([("f", "z")], [[], []], 1))

    def test_runs_are_splits_of_the_book_asked_by_fewer(self):
        picks, _, runs = self.paper_of(three_of_four())
        every = all_picks(three_of_four())
        choices = [list(row) for few in range(len(picks)) for row in itertools.combinations(every, few)]
        self.assertEqual([fewer for fewer, _ in runs], choices)
        self.assertEqual(choices[:3], [[], [("d", "a")], [("f", "a")]])
        for fewer, run in runs:
            self.assertIs(is_split(asked(three_of_four(), fewer), run), True)

    def test_as_gone_through(self):
        """Point 3 (e)."""
        found = {}
        for book in chance_books(250):
            every = all_picks(book)
            if len(every) <= 6:
                choices = [list(row) for many in range(len(every) + 1) for row in itertools.combinations(every, many)]
                sure = [row for row in choices if settled(asked(book, row))[0] == "sure"]
                picks, _, runs = self.paper_of(book)
                self.assertEqual(picks, sure[0])
                self.assertEqual(len(runs), len([row for row in choices if len(row) < len(picks)]))
                found[len(picks)] = found.get(len(picks), 0) + 1
        self.assertTrue(all(found.get(many, 0) > 3 for many in range(3)), found)

    def test_called_otherwise(self):
        """Point 3 (g)."""
        for book in chance_books(120):
            if len(all_picks(book)) <= 6:
                self.assertEqual(len(ask_paper(book_otherwise(book))[0]), len(ask_paper(book)[0]))

    def test_seven_are_too_many(self):
        refused(self, TooMany, ask_paper, bare_book(7))
        refused(self, TooMany, ask_paper, book_of(d="a:k b:k, read a, read b", e="a:k b:k, read a, read b",
                                                  f="a:k b:k, read a, read b", g="a:k b:k, read a, read b"))
        self.assertTrue(issubclass(TooMany, StepError))

    def test_the_paper_is_a_new_one(self):
        book = three_of_four()
        paper = ask_paper(book=book)
        again = copy.deepcopy(paper)
        for fewer, run in paper[2]:
            fewer.append(("x", "y"))
            for row in run:
                if row[0] == "begin":
                    row[2].clear()
            run.clear()
        for part in paper:
            for row in part:
                if isinstance(row, list):
                    row.append(0)
            part.clear()
        self.assertEqual(book, three_of_four())
        self.assertEqual(ask_paper(book), again)


class IsAskPaper(Papers):

    def setUp(self):
        self.book = three_of_four()
        self.picks, self.table, self.runs = ask_paper(self.book)

    def is_none(self, picks=None, table=None, runs=None, book=None):
        paper = (picks if picks is not None else self.picks, table if table is not None else self.table,
                 runs if runs is not None else self.runs)
        self.paper_is(False, book or self.book, paper)

    def test_the_told_one(self):
        self.paper_is(True, self.book, (self.picks, self.table, self.runs))
        self.assertIs(is_ask_paper(thing=ask_paper(self.book), book=self.book), True)

    def test_anything(self):
        for thing in odd_things() + [[self.picks, self.table, self.runs], (self.picks, self.table),
                                     (self.picks, self.table, self.runs, []), (None,) * 3, (Odd(),) * 3, (Alike(),) * 3,
                                     ([], [], []), {0: self.picks}]:
            self.paper_is(False, self.book, thing)

    def test_each_part_of_anything(self):
        for thing in odd_things() + [Odd(), Alike(), tuple(self.picks), {}]:
            self.paper_is(False, self.book, (thing, self.table, self.runs))
            self.paper_is(False, self.book, (self.picks, thing, self.runs))
            self.paper_is(False, self.book, (self.picks, self.table, thing))

    def test_other_picks_of_as_few(self):
        picks = [("d", "a"), ("g", "a")]
        self.paper_is(True, self.book, (picks, table_of(asked(self.book, picks)), self.runs))

    def test_picks_that_are_not_fewest(self):
        for picks in ([("d", "a"), ("f", "a"), ("g", "a")], all_picks(self.book)):
            table = table_of(asked(self.book, picks))
            self.is_none(picks, table)
            every = all_picks(self.book)
            choices = [list(row) for few in range(len(picks)) for row in itertools.combinations(every, few)]
            runs = [(fewer, settled(asked(self.book, fewer))[1]) for fewer in choices]
            self.is_none(picks, table, runs)

    def test_picks_that_do_not_do(self):
        self.is_none([], self.table, [])
        self.is_none([("d", "a")], self.table, self.runs[:1])
        self.is_none([("f", "a"), ("g", "a")])

    def test_picks_that_are_none(self):
        self.is_none(self.picks[::-1])
        self.is_none(self.picks * 2)
        self.is_none(sorted(self.picks * 2))
        self.is_none([("d", "b"), ("f", "a")])
        self.is_none(tuple(self.picks))
        self.is_none([list(pick) for pick in self.picks])

    def test_another_table(self):
        self.is_none(table=[[]] * 3)
        self.is_none(table=self.table[::-1])
        self.is_none(table=self.table + [[]])
        self.is_none(table=[row[1:] for row in self.table])
        self.is_none(table=tuple(self.table))
        self.assertIsNone(table_of(self.book))
        self.is_none(table=[[("f", "a")]] + self.table[1:])
        self.is_none(table=self.table[:3] + [[("r", "a"), ("d", "a")]])

    def test_a_greater_one_that_is_a_table(self):
        other = [sorted(set(row) | {("r", "a")}) for row in self.table]
        self.assertNotEqual(other, self.table)
        self.assertIs(is_table(asked(self.book, self.picks), other), True)
        self.paper_is(True, self.book, (self.picks, other, self.runs))

    def test_a_run_left_out(self):
        for at in range(len(self.runs)):
            self.is_none(runs=self.runs[:at] + self.runs[at + 1:])
        self.is_none(runs=[])

    def test_a_run_twice(self):
        for at in range(len(self.runs)):
            self.is_none(runs=self.runs[:at] + [self.runs[at]] + self.runs[at:])
            self.is_none(runs=self.runs[:at] + [self.runs[at - 1]] + self.runs[at + 1:])

    def test_runs_in_another_order(self):
        for row in itertools.permutations(self.runs):
            if list(row) != self.runs:
                self.is_none(runs=list(row))

    def test_a_run_of_other_picks(self):
        for at, (fewer, run) in enumerate(self.runs):
            for other in ([], [("d", "a")], [("r", "a")], [("d", "a"), ("f", "a")], [("x", "a")]):
                if other != fewer:
                    self.is_none(runs=self.runs[:at] + [(other, run)] + self.runs[at + 1:])
            for other in (None, tuple(fewer), {}, Odd(), Alike(), [Odd()], [Alike()], [["d", "a"]], fewer + fewer + [1],
                          fewer + [("d", "a")] * 2):
                self.is_none(runs=self.runs[:at] + [(other, run)] + self.runs[at + 1:])

    def test_each_row_of_runs_of_anything(self):
        for at, row in enumerate(self.runs):
            for thing in odd_things() + [list(row), row[:1], row + ([],), (row[1], row[0]), Odd(), Alike()]:
                self.is_none(runs=self.runs[:at] + [thing] + self.runs[at + 1:])

    def test_a_run_that_is_no_split_of_the_book_asked_by_these(self):
        for at, (fewer, run) in enumerate(self.runs):
            for thing in odd_things() + [[], run[:-1], run + run, tuple(run), run[::-1]]:
                self.is_none(runs=self.runs[:at] + [(fewer, thing)] + self.runs[at + 1:])
        at = [fewer for fewer, _ in self.runs].index([("d", "a")])
        by_none = settled(book_of(d="a:k b:k, read a, write b"))[1]
        self.assertIs(is_split(self.book, by_none), True)
        self.assertIs(is_split(asked(self.book, [("d", "a")]), by_none), False)
        self.is_none(runs=self.runs[:at] + [([("d", "a")], by_none)] + self.runs[at + 1:])
        self.paper_is(True, self.book, (self.picks, self.table, [([], by_none)] + self.runs[1:]))

    def test_a_run_that_goes_wrong_and_is_no_split(self):
        rows = [("begin", "d", [("k", 0), ("k", 1)]), ("begin", "d", [("k", 1), ("k", 0)])]
        rows += [("step", 0), ("step", 0), ("step", 1), ("step", 1), ("end", 0), ("end", 1)]
        self.is_none(runs=[([], rows)] + self.runs[1:])

    def test_of_a_sure_book(self):
        book = book_of(f="a:k, read a", w="a:k, write a")
        self.paper_is(True, book, ([], table_of(book), []))
        self.paper_is(False, book, ([("f", "a")], [[], []], []))
        self.paper_is(False, book, ([("f", "a")], [[], []], [([], [])]))
        self.paper_is(False, book, ([], table_of(book), [([], [])]))

    def test_with_more_than_six_bare_places_nothing_is(self):
        sure = book_of(d="a:k b:k c:m d:m, read a, read b, read c, read d", e="a:k b:k c:m, read a, read b, read c")
        self.assertEqual(len(all_picks(sure)), 7)
        for book in (bare_book(7), sure):
            for thing in odd_things() + [([], table_of(book), []), (all_picks(book), [[]] * len(book[1]), [])]:
                self.paper_is(False, book, thing)
        for thing in odd_things():
            self.paper_is(False, deal_book(), thing)
        six = book_of(d="a:k b:k c:m d:m, read a, read b, read c, read d", e="a:k b:k, read a, read b")
        self.paper_is(True, six, ([], table_of(six), []))


if __name__ == "__main__":
    unittest.main()
