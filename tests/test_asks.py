"""Picks, and books asked by them (point 23)."""

import itertools
import random
import unittest

from snapsure.asks import all_picks, asked
from snapsure.books import look_at_book
from snapsure.errors import BookError, NoPicks
from snapsure.places import bare_places
from snapsure.settling import settled
from tests.chance import chance_books
from tests.samples import Alike, Odd, book_of, deal_book, odd_things, refused, small_book, unchanged, wide_book
from tests.search import RINGS, ring_book


def lone_book():
    """A place of several letters of l, the first of which is z, and one of n that is not bare."""
    return book_of(f="z:l a:l k:k c:n, read a, read z, read k, read c, write c, read a", g="b:l, write b")


class AllPicks(unittest.TestCase):

    def picks_are(self, expected, book):
        self.assertEqual(unchanged(self, all_picks, book), expected)

    def test_sorted_whatever_the_order_of_dealings_and_letters(self):
        self.picks_are([("a", "x"), ("b", "c"), ("b", "d"), ("c", "a")],
                       book_of(b="d:k c:m e:k, read c, read d, write e", c="a:k, read a", a="x:k, read x"))

    def test_bare_places_alone(self):
        self.picks_are([("get", "a"), ("mix", "a"), ("move", "a"), ("see", "x")], deal_book())
        self.picks_are([("take", "a")], small_book())
        self.picks_are([("d" + sign * 7, letter) for sign in "abcdefgh" for letter in "ad"], wide_book())

    def test_none(self):
        self.picks_are([], book_of(d="a:k, ask a"))
        self.picks_are([], book_of(d="a:k b:l, write a, read b, write b, read a"))

    def test_the_first_letter_of_a_place_with_one_key(self):
        self.picks_are([("f", "k"), ("f", "z")], lone_book())

    def test_as_places_are_told(self):
        for book in chance_books(150):
            expected = sorted((name, place[0]) for name, _, _ in book[1] for place in bare_places(book, name))
            self.picks_are(expected, book)

    def test_the_list_is_a_new_one(self):
        book = deal_book()
        all_picks(book).clear()
        self.assertEqual(len(all_picks(book=book)), 4)


class Asked(unittest.TestCase):

    def asked_is(self, expected, book, picks):
        self.assertEqual(unchanged(self, asked, book, picks), expected)

    def test_by_none(self):
        for book in (deal_book(), small_book(), wide_book(), lone_book()):
            self.asked_is(book, book, [])

    def test_by_some(self):
        book = book_of(f="a:k b:k c:m, read a, read b, read a, write c, read b", g="a:k, read a")
        by_a = book_of(f="a:k b:k c:m, ask a, read b, ask a, write c, read b", g="a:k, read a")
        self.asked_is(by_a, book, [("f", "a")])
        self.asked_is(book_of(f="a:k b:k c:m, read a, ask b, read a, write c, ask b", g="a:k, ask a"),
                      book, [("f", "b"), ("g", "a")])

    def test_by_all(self):
        book = book_of(f="a:k b:k c:m, read a, read b, read a, write c, read b", g="a:k, read a")
        self.asked_is(book_of(f="a:k b:k c:m, ask a, ask b, ask a, write c, ask b", g="a:k, ask a"),
                      book, [("f", "a"), ("f", "b"), ("g", "a")])

    def test_a_place_of_several_letters(self):
        self.asked_is(book_of(f="z:l a:l k:k c:n, ask a, ask z, read k, read c, write c, ask a", g="b:l, write b"),
                      lone_book(), [("f", "z")])
        self.asked_is(book_of(f="z:l a:l k:k c:n, read a, read z, ask k, read c, write c, read a", g="b:l, write b"),
                      lone_book(), [("f", "k")])
        look_at_book(lone_book())

    def test_two_letters_of_a_kind_with_many_keys_are_two_places(self):
        self.asked_is(book_of(f="z:k a:k, read a, ask z, read a"), book_of(f="z:k a:k, read a, read z, read a"),
                      [("f", "z")])

    def test_reads_elsewhere_stay(self):
        self.asked_is(book_of(f="a:l, ask a", g="a:l b:l, read a, read b", h="a:l, read a, write a"),
                      book_of(f="a:l, read a", g="a:l b:l, read a, read b", h="a:l, read a, write a"), [("f", "a")])

    def test_where_all_are_picked_it_is_sure(self):
        books = [ring_book(many) for many in RINGS] + [deal_book(), lone_book(), wide_book()] + list(chance_books(150))
        for book in books:
            other = asked(book, all_picks(book))
            look_at_book(other)
            self.assertEqual(all_picks(other), [])
            self.assertEqual(settled(other)[0], "sure")

    def test_what_is_asked_is_a_pick_no_more(self):
        for seed, book in enumerate(chance_books(100)):
            picks = [pick for pick in all_picks(book) if random.Random(seed).random() < 0.5]
            self.assertEqual(all_picks(asked(book, picks)), [pick for pick in all_picks(book) if pick not in picks])

    def test_deed_by_deed(self):
        for seed, book in enumerate(chance_books(100)):
            chance, many_of = random.Random(seed), dict(book[0])
            picks = [pick for pick in all_picks(book) if chance.random() < 0.5]
            told = unchanged(self, asked, book, picks)
            self.assertEqual(told[0], book[0])
            self.assertEqual([row[:2] for row in told[1]], [row[:2] for row in book[1]])
            for (name, letters, steps), (_, _, now) in zip(book[1], told[1]):
                kind_of = dict(letters)
                for (deed, letter), step in zip(steps, now):
                    picked = any(own == name and (
                        one == letter or kind_of[one] == kind_of[letter] and not many_of[kind_of[letter]])
                        for own, one in picks)
                    self.assertEqual(step, ("ask" if picked else deed, letter))
                self.assertEqual(len(now), len(steps))

    def test_the_book_is_a_new_one(self):
        book, picks = deal_book(), [("get", "a")]
        for _ in range(2):
            told = asked(book, picks)
            told[0].clear()
            told[1][0][1].clear()
            told[1][0][2].clear()
            told[1].clear()
            self.assertEqual((book, picks), (deal_book(), [("get", "a")]))
        told = asked(book, picks)
        picks.clear()
        book[1].clear()
        self.assertEqual(told[1][0], ("get", [("a", "k")], [("ask", "a")]))

    def test_by_name(self):
        self.assertEqual(asked(picks=[], book=deal_book()), deal_book())


class NotPicks(unittest.TestCase):

    def none(self, thing, book=None):
        refused(self, NoPicks, asked, book or deal_book(), thing)

    def test_anything(self):
        for thing in odd_things() + [Odd(), Alike(), (("get", "a"),), {("get", "a"): 1}, {("get", "a")}, "get.a",
                                     iter([("get", "a")]), ("get", "a")]:
            if not isinstance(thing, list) or len(thing) > 0:
                self.none(thing)

    def test_each_pick_of_anything(self):
        for thing in odd_things() + [["get", "a"], "getx", {"get": "a"}, ("get",), ("get", "a", "a"), (), ("get", 0),
                                     (0, "a"), ("get", None), (None, "a"), (b"get", "a"), (Odd(), "a"),
                                     ("get", Odd()), (Alike(), "a"), ("get", Alike()), (["get"], "a"), (True, True)]:
            self.none([thing])
            self.none([("get", "a"), thing])
            self.none([thing, ("see", "x")])

    def test_not_sorted(self):
        picks = all_picks(deal_book())
        for row in itertools.permutations(picks):
            if list(row) != picks:
                self.none(list(row))
        self.none([("see", "x"), ("get", "a")])

    def test_one_twice(self):
        self.none([("get", "a"), ("get", "a")])
        self.none([("get", "a"), ("move", "a"), ("move", "a")])
        self.none(sorted(all_picks(deal_book()) * 2))

    def test_a_place_that_is_not_bare(self):
        for pick in (("put", "a"), ("add", "a"), ("move", "b"), ("late", "a"), ("own", "a"), ("mix", "c"), ("mix", "x")):
            self.none([pick])
            self.none(sorted([("get", "a"), pick]))

    def test_a_letter_that_is_not_the_first_one_of_its_place(self):
        self.none([("f", "a")], lone_book())
        self.none([("f", "a"), ("f", "z")], lone_book())

    def test_a_letter_of_none(self):
        for letter in ("b", "", "aa", "A", "x"):
            self.none([("get", letter)])

    def test_a_name_of_none(self):
        for name in ("none", "", "GET", "ge", "k"):
            self.none([(name, "a")])

    def test_where_there_are_none(self):
        self.none([("d", "a")], book_of(d="a:k, ask a"))
        self.none([None], book_of(d="a:k, ask a"))

    def test_picks_of_what_was_asked(self):
        once = asked(deal_book(), [("get", "a")])
        self.none([("get", "a")], once)

    def test_it_stands_under_book_error(self):
        self.assertTrue(issubclass(NoPicks, BookError))


if __name__ == "__main__":
    unittest.main()
