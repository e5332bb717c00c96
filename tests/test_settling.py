"""Books settled (point 22), and what they promise (point 3 (a), (b), (c) and (g))."""

import itertools
import random
import unittest

from snapsure.ahead import must
from snapsure.alone import tells_same
from snapsure.naming import chosen
from snapsure.orders import is_order, order_of, ring_of
from snapsure.runs import is_run, replayed, standing
from snapsure.settling import fewest, settled
from snapsure.spans import spans_of
from snapsure.splits import is_split
from snapsure.tables import is_table, table_of
from tests.chance import book_otherwise, chance_book, chance_books, chance_run
from tests.samples import book_of, deal_book, unchanged, wide_book
from tests.search import RINGS, goes_wrong, ring_book, runs_of, wrong_run


def greatest_book(chance, deeds=("read", "write", "ask"), lone=0.3):
    """A book by chance of eight dealings with four letters and eight steps each."""
    kinds = [("k" + sign, chance.random() > lone) for sign in "abcdef"]
    dealings = []
    for name in "abcdefgh":
        letters = [(sign, chance.choice(kinds)[0]) for sign in "abcd"]
        used = list("abcd") + [chance.choice("abcd") for _ in range(4)]
        chance.shuffle(used)
        dealings.append((name, letters, [(chance.choice(deeds), sign) for sign in used]))
    return (kinds, dealings)


class Settling(unittest.TestCase):

    def check(self, book):
        """What is told of the book is one of the two, and as it is promised; told is how many dealings the split has."""
        told = unchanged(self, settled, book)
        self.assertIs(type(told), tuple)
        word, thing = told
        many = unchanged(self, fewest, book)
        if word == "sure":
            self.assertIsNone(many)
            self.assertEqual(thing, table_of(book))
            self.assertIs(is_table(book, thing), True)
        else:
            self.assertEqual(word, "run")
            self.assertIsNone(table_of(book))
            self.check_run(book, thing, many)
        return many

    def check_run(self, book, run, many):
        names = [row[1] for row in run if row[0] == "begin"]
        self.assertEqual((type(many), len(names)), (int, many))
        self.assertIs(is_run(book, run), True)
        self.assertIs(is_split(book, run), True)
        self.assertEqual(standing(book, run), list(range(many)))
        self.assertEqual(ring_of(book, run), list(range(many)))
        ring = {(one, (one + 1) % many) for one in range(many)}
        self.assertEqual({row[:2] for row in must(book, run)}, ring)
        for _, _, keys in [row for row in run if row[0] == "begin"]:
            self.assertTrue(all(len(str(number)) <= 20 for _, number in keys))

    def settles(self, many, book):
        self.assertEqual(self.check(book), many, book)


class Settled(Settling):

    def test_two(self):
        self.settles(2, ring_book(2))
        self.settles(2, deal_book())
        self.settles(2, book_of(d="a:k b:k, read a, write b"))
        self.settles(2, book_of(d="a:k b:m, read a, write b", e="a:m b:k, read a, write b"))

    def test_three_and_more(self):
        for many in RINGS:
            self.settles(many, ring_book(many))
            self.settles(many, chosen(ring_book(many), list(range(len(ring_book(many)[1])))[::-1]))

    def test_sure_books(self):
        for book in (book_of(d="a:k, ask a"), book_of(d="a:k b:m, read a, read b"), book_of(d="a:k, read a, write a"),
                     book_of(f="a:k, read a", w="a:k, write a"), wide_book()):
            self.settles(None, book)
        self.assertEqual(settled(book_of(f="a:k, read a", w="a:k, write a")), ("sure", [[("f", "a"), ("w", "a")], []]))
        self.assertEqual(settled(wide_book()), ("sure", [[]] * 8))

    def test_what_is_told_of_a_small_book(self):
        word, run = settled(book_of(f="a:k b:m, read a, write b", g="a:m c:k, read a, write c"))
        self.assertEqual(word, "run")
        self.assertEqual([row[1] for row in run if row[0] == "begin"] + run[-3:],
                         ["f", "g", ("step", 0), ("step", 0), ("end", 0)])

    def test_a_ring_without_one_of_its_dealings_is_sure(self):
        for many in RINGS:
            for at in range(many if many > 2 else 1):
                numbers = [number for number in range(many) if number != at]
                self.settles(None, chosen(ring_book(many), numbers))

    def test_a_book_with_other_rings_tells_the_fewest(self):
        kinds, four = ring_book(4)
        more = [("x" + name, letters, steps) for name, letters, steps in ring_book(2)[1]]
        self.settles(2, (kinds, four + more))
        self.settles(2, (kinds, more + four))
        self.settles(2, (kinds, four + more[1:]))
        self.settles(4, (kinds, four + more[:1]))

    def test_one_dealing_in_two_places_of_the_ring(self):
        book = book_of(f="a:k l:l b:m, read a, write b, write l", w="a:k b:m, write a, write b",
                       d="b:m c:p, read b, read c", x="c:p, write c")
        self.settles(5, book)
        names = [row[1] for row in settled(book)[1] if row[0] == "begin"]
        self.assertEqual(names, ["f", "w", "d", "x", "d"])

    def test_kinds_with_one_key(self):
        self.settles(2, book_of(f="a:l b:n, read a, write b", g="a:n b:l, read a, write b"))
        self.settles(None, book_of(f="a:l b:n, read a, write b", g="a:n b:l, ask a, write b"))
        self.settles(3, book_of(f="a:l b:n, read a, write b", w="a:l c:k, write a, write c",
                                r="c:k b:n, read c, read b"))
        self.settles(2, book_of(f="a:l b:k, read a, write b", g="a:k b:l, read a, write b"))
        self.settles(2, book_of(f="a:l b:l c:n, read a, read b, write c", g="a:n b:l, read a, write b"))
        self.settles(None, book_of(f="a:l b:l c:n, read a, write b, write c", g="a:n b:l, read a, write b"))
        self.settles(None, book_of(f="a:l, read a, write a"))

    def test_dealings_that_stand_not_beside_each_other(self):
        self.settles(None, book_of(f="a:k b:m x:l, read a, write b, write x"))
        self.settles(2, book_of(f="a:k b:m x:n, read a, write b, write x", g="a:m b:k x:l, read a, write b, write x"))
        self.settles(None, book_of(f="a:k b:m x:l, read a, write b, write x",
                                   g="a:m b:k x:l, read a, write b, ask x"))
        self.settles(2, book_of(f="a:k b:m x:l, read a, write b, read x", g="a:m b:k x:l, read a, write b, ask x"))
        self.settles(3, book_of(f="a:k b:m x:l, read a, write b, write x", w="a:k c:p x:n, write a, write c, write x",
                                r="c:p b:m x:n, read c, read b, write x"))

    def test_two_letters_for_one_key(self):
        book = book_of(d="a:k b:k, read a, write b")
        runs = [run for run in runs_of(book, 2) if goes_wrong(book, run)]
        self.assertTrue(runs)
        self.settles(2, book)
        self.settles(None, book_of(d="a:k, read a, write a"))
        self.settles(None, book_of(d="a:k b:k, ask a, write b"))
        self.settles(2, book_of(d="a:k b:k c:k, read a, write b, write c"))

    def test_asks(self):
        self.settles(None, book_of(d="a:k b:k, ask a, write b"))
        self.settles(None, book_of(f="a:k b:m, read a, read b", g="a:k b:m, ask a, ask b"))
        self.settles(2, book_of(f="a:k b:m, read a, ask b", g="a:k b:m, ask a, read b"))
        self.settles(2, book_of(f="a:k b:m, read a, read a, ask b", g="a:k b:m, ask a, read b, read b"))
        self.settles(None, book_of(f="a:k b:m, read a, ask a, ask b", g="a:k b:m, ask a, read b"))

    def test_what_a_dealing_reads_of_its_own(self):
        self.settles(None, book_of(f="a:k b:m, write a, read a, write b", g="a:k b:m, write a, write b, read b"))
        self.settles(None, book_of(f="a:k b:m, read a, write a, write b", g="a:k b:m, write a, read b, write b"))

    def test_a_place_that_bites_by_itself_alone_does_not(self):
        self.settles(None, book_of(f="a:k, read a", w="a:k b:m, write a, write b", r="b:m, read b"))
        self.settles(None, book_of(f="a:k l:l, read a, write l", w="a:k, write a", r="l:l, read l"))
        self.settles(3, book_of(f="a:k l:l, read a, write l", w="a:k, write a", r="l:l b:k, read l, read b"))

    def test_the_told_is_new(self):
        for book in (deal_book(), wide_book()):
            word, thing = settled(book)
            again = settled(book)[1]
            for row in again:
                if isinstance(row, list):
                    row.append(("x", "y"))
                elif row[0] == "begin":
                    row[2].clear()
            again.clear()
            self.assertEqual(settled(book), (word, thing))
        run = settled(deal_book())[1]
        begins = [row[2] for row in run if row[0] == "begin"]
        self.assertEqual(len({id(keys) for keys in begins}), len(begins))

    def test_a_book_that_is_changed_behind_the_call(self):
        book = deal_book()
        told = settled(book)[1]
        book[1].clear()
        self.assertIs(is_split(deal_book(), told), True)

    def test_by_name(self):
        self.assertEqual(settled(book=wide_book()), ("sure", [[]] * 8))
        self.assertEqual(fewest(book=deal_book()), 2)


class Promises(Settling):

    def test_books_by_chance(self):
        found = {}
        for book in chance_books(400):
            many = self.check(book)
            found[many] = found.get(many, 0) + 1
        self.assertGreater(found[None], 30)
        self.assertGreater(found[2], 30)
        self.assertGreater(found[3], 1)

    def test_no_run_with_fewer_dealings_goes_wrong(self):
        """Point 3 (b): for each run of fewer, all that can be woven over all keys."""
        for many in (3, 4):
            self.assertIsNone(wrong_run(ring_book(many), many - 1), many)
        for many in RINGS:
            if many > 2:
                self.assertIsNone(wrong_run(ring_book(many), 2), many)

    def test_small_books_gone_through(self):
        """Point 3 (a), (b) and (c)."""
        found = {}
        for seed in range(150):
            book = chance_book(random.Random(seed), 2, 2, 4)
            many = fewest(book)
            self.assertEqual(wrong_run(book, 2) is not None, many == 2, book)
            found[many] = found.get(many, 0) + 1
        self.assertGreater(found[2], 10)

    def test_small_books_gone_through_with_three(self):
        for many, book in (
            (2, book_of(f="a:l b:n, read a, write b", g="a:n b:l, read a, write b")),
            (2, book_of(f="a:l b:k, read a, write b", g="a:k b:l, read a, write b")),
            (3, book_of(f="a:l b:n, read a, write b", w="a:l b:k, write a, ask b", r="a:k b:n, read a, read b")),
            (3, book_of(f="a:k b:n, read a, write b", w="a:k, write a", r="a:k b:n, read a, read b")),
            (None, book_of(f="a:l b:n, read a, write b", g="a:n b:l, ask a, write b")),
            (None, book_of(f="a:k, read a", w="a:k, write a", s="a:k, ask a")),
            (None, book_of(f="a:l b:k, read a, write a, read b", g="a:l b:k, write a, write b")),
        ):
            self.settles(many, book)
            self.assertEqual(wrong_run(book, 2) is not None, many == 2, book)
            self.assertEqual(wrong_run(book, 3) is not None, many in (2, 3), book)

    def test_one_begins_ahead_of_all_and_ends_behind_them(self):
        """Point 3 (b)."""
        for many in RINGS:
            spans = spans_of(ring_book(many), settled(ring_book(many))[1])
            self.assertTrue(all(spans[0].first < span.first and span.last < spans[0].last for span in spans[1:]))
            self.assertTrue(all(one.last + 1 == other.first for one, other in itertools.pairwise(spans[1:])))
            self.assertTrue(all(spans[0].overlaps(span) for span in spans[1:]))

    def test_none_is_called_off(self):
        for many in RINGS:
            run = settled(ring_book(many))[1]
            told = replayed(ring_book(many), run)
            self.assertEqual([answer for row, answer in zip(run, told) if row[0] == "end"], [True] * many)

    def test_no_order_tells_the_same(self):
        books = [ring_book(many) for many in (2, 3, 4, 5)] + [deal_book()] + list(chance_books(60))
        checked = 0
        for book in books:
            word, run = settled(book)
            if word == "run":
                for order in itertools.permutations(range(fewest(book))):
                    self.assertIs(tells_same(book, run, list(order)), False)
                    checked += 1
        self.assertGreater(checked, 150)

    def test_runs_of_sure_books(self):
        """Point 3 (c)."""
        many = 0
        for seed in range(150):
            chance = random.Random(seed)
            book = chance_book(chance, 3, 3, 4)
            if settled(book)[0] == "sure":
                for _ in range(4):
                    run = chance_run(chance, book, chance.randint(2, 8))
                    order = order_of(book, run)
                    self.assertIs(is_order(book, run, order), True)
                    self.assertIs(tells_same(book, run, order), True)
                    many += 1
        self.assertGreater(many, 200)

    def test_called_otherwise(self):
        """Point 3 (g)."""
        for book in [ring_book(many) for many in (2, 3, 4, 5)] + list(chance_books(150)):
            if len(book[0]) <= 4 and len(book[1]) <= 5:
                other = book_otherwise(book)
                self.assertEqual(self.check(other), fewest(book))
                self.assertEqual(settled(other)[0], settled(book)[0])

    def test_dealings_in_another_order(self):
        """Point 3 (g)."""
        for many in RINGS:
            for seed in range(10):
                numbers = random.Random(seed).sample(range(many), many)
                self.settles(many, chosen(ring_book(many), numbers))

    def test_the_greatest_books(self):
        found = {}
        for seed in range(40):
            deeds = (("read", "write", "ask"), ("read", "read", "read", "write"), ("read",) * 9 + ("write",))[seed % 3]
            many = self.check(greatest_book(random.Random(seed), deeds, 0.9 if seed % 2 else 0.2))
            found[many] = found.get(many, 0) + 1
        self.assertGreater(found[2], 5)
        self.assertGreater(found[None], 5)

    def test_greatest_books_of_asks_and_of_reads(self):
        for deed in ("read", "ask", "write"):
            self.settles(None, greatest_book(random.Random(1), (deed,)))


if __name__ == "__main__":
    unittest.main()
