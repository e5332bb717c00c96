"""Tables (point 20), and what they promise (point 3 (c))."""

import itertools
import random
import unittest

from snapsure.alone import tells_same
from snapsure.hooks import bites, hanging
from snapsure.naming import chosen
from snapsure.orders import is_order, order_of, ring_of
from snapsure.tables import is_table, table_of
from tests.chance import chance_book, chance_books, chance_run, chance_runs, hooks_called_otherwise
from tests.judge import BookJudge
from tests.samples import Alike, Odd, book_of, deal_book, marks, odd_things, unchanged, wide_book


def sure_book():
    """f and r read k, which w writes; v reads l, which t writes; s writes m and u asks p."""
    return book_of(f="a:k, read a", w="c:k, write c", r="b:k, read b", s="m:m, write m", t="x:l, write x",
                   u="p:p, ask p", v="x:l, read x")


ROW_OF_F = [("f", "a"), ("r", "b"), ("w", "c")]
SURE_TABLE = [ROW_OF_F, [], ROW_OF_F, [], [], [], [("t", "x"), ("v", "x")]]


def wrong_book():
    return book_of(d="a:k b:k, read a, write b")


class TableTest(unittest.TestCase):

    def table_is(self, expected, book, thing):
        self.assertIs(unchanged(self, is_table, book, thing), expected)

    def none_with_row(self, row, at=0):
        """The sure book's table with this row in the stead of one is none."""
        table = list(SURE_TABLE)
        table[at] = row
        ahead = marks(table)
        self.assertIs(is_table(sure_book(), table), False, row if not isinstance(row, list) else len(row))
        self.assertEqual(marks(table), ahead)


class TableOf(TableTest):

    def test_of_a_sure_book(self):
        self.assertEqual(unchanged(self, table_of, sure_book()), SURE_TABLE)

    def test_just_those_that_hang(self):
        table = table_of(sure_book())
        self.assertEqual(table, [hanging(sure_book(), name) for name, _, _ in sure_book()[1]])

    def test_none_where_one_of_these_bites(self):
        self.assertIsNone(table_of(wrong_book()))
        self.assertIsNone(table_of(deal_book()))
        self.assertIsNone(table_of(book_of(f="a:k b:m, read a, write b", g="a:k b:m, write a, read b")))
        self.assertIsNone(table_of(
            book_of(f="a:k z:p, read a, write z", w="a:k b:m, write a, write b", r="c:m d:p, read c, read d")))

    def test_not_none_where_only_one_bites_that_does_not_hang(self):
        book = book_of(f="a:k, write a", g="a:k b:m, read a, read b")
        self.assertTrue(bites(book, "f", ("g", "b")))
        self.assertEqual(table_of(book), [[], [("f", "a"), ("g", "a")]])

    def test_lone_keys(self):
        self.assertEqual(table_of(book_of(f="a:l b:k, write a, read b", g="x:l c:k, write x, write c")), [[], []])
        self.assertIsNone(table_of(book_of(f="a:l b:n, read a, write b", g="a:n b:l, read a, write b")))
        self.assertEqual(table_of(book_of(f="a:l b:n, read a, write b", g="a:n b:l, ask a, write b")), [[], []])

    def test_a_book_of_one(self):
        self.assertEqual(table_of(book_of(d="a:k, ask a")), [[]])
        self.assertEqual(table_of(book_of(d="a:k b:m, read a, write a, read b")), [[]])

    def test_a_book_of_as_many_as_may_be(self):
        self.assertEqual(table_of(wide_book()), [[]] * 8)

    def test_the_table_is_a_new_one(self):
        book = sure_book()
        table = table_of(book)
        table[0].clear()
        table.clear()
        self.assertEqual(table_of(book), SURE_TABLE)

    def test_by_name(self):
        self.assertEqual(table_of(book=sure_book()), SURE_TABLE)
        self.assertIs(is_table(thing=SURE_TABLE, book=sure_book()), True)


class IsTable(TableTest):

    def test_the_told_one(self):
        self.table_is(True, sure_book(), SURE_TABLE)
        self.table_is(True, book_of(d="a:k, ask a"), [[]])

    def test_anything(self):
        for thing in odd_things() + [tuple(SURE_TABLE), {at: row for at, row in enumerate(SURE_TABLE)}, Odd(), Alike()]:
            self.assertIs(is_table(sure_book(), thing), False)
        for thing in odd_things():
            expected = isinstance(thing, list) and len(thing) == 1 and isinstance(thing[0], list) and not thing[0]
            self.assertIs(is_table(book_of(d="a:k, ask a"), thing), expected)

    def test_too_few_or_too_many_lists(self):
        for table in ([], SURE_TABLE[:-1], SURE_TABLE + [[]], SURE_TABLE * 2, SURE_TABLE[:1], ROW_OF_F):
            self.table_is(False, sure_book(), table)

    def test_each_row_of_anything(self):
        for at in range(len(SURE_TABLE)):
            for row in odd_things() + [tuple(SURE_TABLE[at]), Odd(), Alike(), {hook: True for hook in SURE_TABLE[at]}]:
                if not isinstance(row, list) or len(row) > 0:
                    self.none_with_row(row, at)

    def test_each_hook_of_anything(self):
        for thing in odd_things() + [["f", "a"], "fa", {"f": "a"}, ("f",), ("f", "a", "a"), ("f", 0), (0, "a"),
                                     ("f", None), (["f"], "a"), ("f", ["a"]), (Odd(), "a"), ("f", Odd()),
                                     (Alike(), "a"), ("f", Alike())]:
            for at in range(4):
                self.none_with_row(ROW_OF_F[:at] + [thing] + ROW_OF_F[at:])
                self.none_with_row(ROW_OF_F[:at] + [thing] + ROW_OF_F[at + 1:])

    def test_hooks_of_a_dealing_that_is_none(self):
        for hook in (("g", "a"), ("zz", "a"), ("", "a"), ("F", "a")):
            self.none_with_row(sorted(ROW_OF_F + [hook]))

    def test_a_letter_that_is_none_of_a_place(self):
        for hook in (("f", "b"), ("f", ""), ("f", "aa"), ("r", "z"), ("w", "a")):
            self.none_with_row(sorted(ROW_OF_F + [hook]))

    def test_a_letter_that_is_no_first_letter_of_a_place(self):
        book = book_of(f="a:l b:l, read b, read a", g="z:l b:l, write z, read b")
        self.table_is(True, book, [[("f", "a"), ("g", "z")], []])
        self.table_is(False, book, [[("f", "a"), ("g", "b")], []])
        self.table_is(False, book, [[("f", "a"), ("g", "b"), ("g", "z")], []])
        self.table_is(False, book, [[("f", "b"), ("g", "z")], []])
        self.table_is(False, book, [[("f", "a"), ("f", "b"), ("g", "z")], []])

    def test_a_hook_of_a_dealing_that_is_not_beside_the_first_one(self):
        book = book_of(f="a:l b:k, write a, read b", g="x:l c:k, write x, write c", h="c:k, write c")
        self.assertEqual(table_of(book), [[("h", "c")], [], []])
        self.table_is(True, book, [[("h", "c")], [], []])
        self.table_is(False, book, [[("g", "c"), ("h", "c")], [], []])
        self.table_is(False, book, [[("f", "b"), ("h", "c")], [], []])
        self.table_is(True, book, [[("h", "c")], [("h", "c")], []])
        self.table_is(False, book, [[("h", "c")], [("g", "c"), ("h", "c")], []])

    def test_a_hook_twice(self):
        for at in range(3):
            self.none_with_row(ROW_OF_F[:at] + [ROW_OF_F[at]] + ROW_OF_F[at:])
        self.none_with_row(ROW_OF_F * 2)

    def test_a_row_that_is_not_sorted(self):
        for row in itertools.permutations(ROW_OF_F):
            if list(row) != ROW_OF_F:
                self.none_with_row(list(row))

    def test_one_that_is_missing(self):
        for at in (0, 2, 6):
            for hook in SURE_TABLE[at]:
                self.none_with_row([other for other in SURE_TABLE[at] if other != hook], at)
            self.none_with_row([], at)

    def test_one_that_a_bare_place_meets_is_missing(self):
        book = book_of(f="a:k, read a", g="a:k, ask a")
        self.table_is(True, book, [[("f", "a"), ("g", "a")], []])
        self.table_is(False, book, [[], []])
        self.table_is(False, book, [[("f", "a")], []])
        self.table_is(False, book, [[("g", "a")], []])

    def test_one_that_bites(self):
        self.table_is(False, wrong_book(), [[("d", "a"), ("d", "b")]])
        self.table_is(False, wrong_book(), [[("d", "a")]])
        self.table_is(False, wrong_book(), [[("d", "b")]])
        self.table_is(False, wrong_book(), [[]])

    def test_one_more_that_bites(self):
        book = book_of(f="a:k, write a", g="a:k b:m, read a, read b")
        self.table_is(True, book, [[], [("f", "a"), ("g", "a")]])
        self.table_is(False, book, [[("g", "b")], [("f", "a"), ("g", "a")]])
        self.table_is(True, book, [[], [("f", "a"), ("g", "a"), ("g", "b")]])

    def test_one_more_that_spoils_nothing(self):
        for more in (("s", "m"), ("u", "p")):
            for at, row in enumerate(SURE_TABLE):
                self.table_is(True, sure_book(), SURE_TABLE[:at] + [sorted(row + [more])] + SURE_TABLE[at + 1:])
        every = sorted(ROW_OF_F + [("s", "m"), ("u", "p"), ("t", "x"), ("v", "x")])
        self.table_is(True, sure_book(), [every] + SURE_TABLE[1:])

    def test_one_more_that_asks_for_others(self):
        self.none_with_row(sorted(ROW_OF_F + [("t", "x")]))
        self.none_with_row(sorted(ROW_OF_F + [("v", "x")]))
        self.table_is(True, sure_book(), [sorted(ROW_OF_F + [("t", "x"), ("v", "x")])] + SURE_TABLE[1:])
        self.none_with_row([("t", "x")], 1)
        self.table_is(True, sure_book(), SURE_TABLE[:1] + [[("t", "x"), ("v", "x")]] + SURE_TABLE[2:])

    def test_asking_changes_nothing(self):
        table = [list(row) for row in SURE_TABLE]
        for _ in range(2):
            self.table_is(True, sure_book(), table)


class AsTheJudgeTells(TableTest):

    def test_books_by_chance(self):
        found = {True: 0, False: 0}
        for book in chance_books(300):
            judge = BookJudge(book)
            table = [judge.hanging(name) for name in judge.names]
            sure = not any(judge.bites(name, hook) for name, row in zip(judge.names, table) for hook in row)
            self.assertEqual(unchanged(self, table_of, book), table if sure else None)
            self.table_is(sure, book, table)
            found[sure] += 1
        self.assertGreater(min(found.values()), 20)

    def test_all_rows(self):
        found = {True: 0, False: 0}
        for seed in range(60):
            book = chance_book(random.Random(seed), 3, 2, 4)
            judge = BookJudge(book)
            table = table_of(book)
            for at, name in enumerate(judge.names if table else ()):
                for row in self.rows_of(judge, name):
                    expected = judge.is_row(name, row)
                    self.assertIs(is_table(book, table[:at] + [row] + table[at + 1:]), expected, (book, row))
                    found[expected] += 1
        self.assertGreater(min(found.values()), 100)

    def rows_of(self, judge, name):
        hooks = sorted(judge.all_hooks(name))
        for many in range(len(hooks) + 1):
            for row in itertools.combinations(hooks, many):
                yield list(row)

    def test_is_table_of_what_table_of_tells_called_otherwise(self):
        """Point 3 (g)."""
        for book in chance_books(100):
            other, _, called = hooks_called_otherwise(book)
            table = table_of(book)
            if table is None:
                self.assertIsNone(table_of(other))
            else:
                self.assertIs(is_table(book, table), True)
                told = [sorted(map(called, row)) for row in table[::-1]]
                self.assertIs(is_table(other, told), True)
                self.assertEqual(table_of(other), told)

    def test_is_table_with_dealings_in_another_order(self):
        """Point 3 (g)."""
        for seed, book in enumerate(chance_books(100)):
            numbers = random.Random(seed).sample(range(len(book[1])), len(book[1]))
            table, other = table_of(book), chosen(book, numbers)
            self.assertEqual(table_of(other), [table[number] for number in numbers] if table else None)
            if table:
                self.assertIs(is_table(other, [table[number] for number in numbers]), True)


class NoRunGoesWrong(unittest.TestCase):
    """Points 3 (c) and 20."""

    def test_runs_of_books_with_a_table(self):
        many = 0
        for seed in range(250):
            chance = random.Random(seed)
            book = chance_book(chance)
            if table_of(book) is not None:
                for _ in range(4):
                    run = chance_run(chance, book, chance.randint(2, 9))
                    order = order_of(book, run)
                    self.assertIsNone(ring_of(book, run))
                    self.assertIs(is_order(book, run, order), True)
                    self.assertIs(tells_same(book, run, order), True)
                    many += 1
        self.assertGreater(many, 400)

    def test_books_of_runs_that_go_wrong_have_none(self):
        found = 0
        for book, run in chance_runs(300):
            if ring_of(book, run) is not None:
                self.assertIsNone(table_of(book))
                self.assertIs(is_table(book, [hanging(book, name) for name, _, _ in book[1]]), False)
                every = [sorted(BookJudge(book).all_hooks(name)) for name, _, _ in book[1]]
                self.assertIs(is_table(book, every), False)
                found += 1
        self.assertGreater(found, 15)


if __name__ == "__main__":
    unittest.main()
