"""Parts that go wrong (point 25), and what they promise (point 3 (f))."""

import itertools
import random
import unittest

from snapsure.errors import BookError, NoPart
from snapsure.naming import chosen
from snapsure.parts import greatest_sure, is_sure, least_wrong, part_by
from snapsure.settling import fewest, settled
from tests.chance import book_otherwise, chance_book, chance_books
from tests.samples import book_of, deal_book, odd_things, refused, unchanged, wide_book
from tests.search import RINGS, ring_book, wrong_run


def texts_of(book):
    """The texts of all parts."""
    return ["".join(signs) for signs in itertools.product("01", repeat=len(book[1])) if "1" in signs]


def within(one, other):
    return all(sign == "0" or around == "1" for sign, around in zip(one, other))


def skewed_book():
    """f and g go wrong together, and so do g, h and i; s goes wrong alone; t never does."""
    return book_of(f="a:k b:m, read a, write b", g="a:m b:k, read a, write b", h="b:m c:p, write b, write c",
                   i="c:p b:k, read c, read b", s="a:p b:p, read a, write b", t="a:l, read a")


class PartBy(unittest.TestCase):

    def part_is(self, numbers, text):
        self.assertEqual(unchanged(self, part_by, deal_book(), text), chosen(deal_book(), numbers))

    def test_the_dealings_in_order_and_all_kinds(self):
        self.part_is([0], "10000000")
        self.part_is([7], "00000001")
        self.part_is([0, 3, 6], "10010010")
        self.part_is([1, 2, 4], "01101000")
        self.assertEqual(part_by(deal_book(), "00000010")[0], deal_book()[0])

    def test_the_whole_book(self):
        self.assertEqual(part_by(deal_book(), "1" * 8), deal_book())
        self.assertEqual(part_by(book_of(d="a:k, ask a"), "1"), book_of(d="a:k, ask a"))

    def test_all_parts(self):
        for text in texts_of(deal_book()):
            self.part_is([at for at, sign in enumerate(text) if sign == "1"], text)

    def test_the_book_is_a_new_one(self):
        book = deal_book()
        told = part_by(text="10000000", book=book)
        told[0].clear()
        told[1][0][1].clear()
        told[1][0][2].clear()
        told[1].clear()
        self.assertEqual(book, deal_book())
        self.part_is([0], "10000000")


class NotParts(unittest.TestCase):

    def none(self, thing, book):
        for call in (part_by, is_sure):
            refused(self, NoPart, call, book, thing)

    def test_anything(self):
        for thing in odd_things() + [1, 10000000, ["1"] * 8, ("1",) * 8, b"11111111", [1] * 8, {"1": 1}]:
            self.none(thing, deal_book())
            self.none(thing, book_of(d="a:k, ask a"))

    def test_too_short_or_too_long(self):
        for text in ("", "1", "1111111", "111111111", "0" * 7 + "1" + "0"):
            self.none(text, deal_book())
        for text in ("", "11", "10", "01"):
            self.none(text, book_of(d="a:k, ask a"))

    def test_other_signs(self):
        for sign in "23456789aIlO -+.,;\t\n":
            for at in range(8):
                self.none("1" * at + sign + "1" * (7 - at), deal_book())
        self.none(" 1111111", deal_book())
        self.none("1111111 ", deal_book())

    def test_none_within(self):
        self.none("0" * 8, deal_book())
        self.none("0", book_of(d="a:k, ask a"))

    def test_it_stands_under_book_error(self):
        self.assertTrue(issubclass(NoPart, BookError))


class IsSure(unittest.TestCase):

    def test_parts(self):
        for text, expected in (("110000", False), ("100000", True), ("010000", True), ("011100", False),
                               ("101100", True), ("000010", False), ("000001", True), ("111111", False),
                               ("010101", True), ("001101", True)):
            self.assertIs(unchanged(self, is_sure, skewed_book(), text), expected, text)

    def test_as_the_book_of_the_part_is_settled(self):
        for book in chance_books(40):
            for text in texts_of(book):
                self.assertIs(is_sure(text=text, book=book), settled(part_by(book, text))[0] == "sure")

    def test_parts_of_small_books_gone_through(self):
        found = {True: 0, False: 0}
        for seed in range(60):
            book = chance_book(random.Random(seed), 3, 2, 4)
            for text in texts_of(book):
                if text.count("1") <= 2:
                    told, many = is_sure(book, text), fewest(part_by(book, text))
                    self.assertEqual(told, many is None, (book, text))
                    self.assertEqual(wrong_run(part_by(book, text), 2) is not None, many == 2, (book, text))
                    found[told] += 1
        self.assertGreater(min(found.values()), 10)


class LeastAndGreatest(unittest.TestCase):

    def check(self, book):
        """Both lists against all parts gone through; told are both."""
        texts = texts_of(book)
        sure = {text: settled(part_by(book, text))[0] == "sure" for text in texts}
        least = [text for text in texts if not sure[text]
                 and all(sure[other] for other in texts if within(other, text) and other != text)]
        greatest = [text for text in texts if sure[text]
                    and not any(sure[other] for other in texts if within(text, other) and other != text)]
        self.assertEqual(unchanged(self, least_wrong, book), least)
        self.assertEqual(unchanged(self, greatest_sure, book), greatest)
        self.assertEqual((least, greatest), (sorted(least), sorted(greatest)))
        for text in texts:
            self.assertEqual(not sure[text], any(within(one, text) for one in least))
        return least, greatest

    def test_some_of_each(self):
        self.assertEqual(self.check(skewed_book()), (
            ["000010", "011100", "110000"], ["010101", "011001", "101101"]))

    def test_a_ring_goes_wrong_as_a_whole(self):
        for many in RINGS:
            if many > 2:
                whole = "1" * many
                greatest = sorted(whole[:at] + "0" + whole[at + 1:] for at in range(many))
                self.assertEqual(least_wrong(ring_book(many)), [whole])
                self.assertEqual(greatest_sure(ring_book(many)), greatest)

    def test_of_a_sure_book(self):
        self.assertEqual(self.check(book_of(d="a:k, ask a")), ([], ["1"]))
        self.assertEqual(self.check(book_of(f="a:k, read a", w="a:k, write a")), ([], ["11"]))
        self.assertEqual((least_wrong(wide_book()), greatest_sure(wide_book())), ([], ["1" * 8]))

    def test_where_each_dealing_goes_wrong_alone(self):
        book = book_of(f="a:k b:k, read a, write b", g="a:m b:m, write a, read b")
        self.assertEqual(self.check(book), (["01", "10"], []))
        self.assertEqual(self.check(book_of(d="a:k b:k, read a, write b")), (["1"], []))

    def test_the_deal_book(self):
        self.assertEqual(least_wrong(deal_book()), ["00010000"])
        self.assertEqual(greatest_sure(deal_book()), ["11101111"])

    def test_books_by_chance(self):
        """Point 3 (f)."""
        found = {}
        for book in chance_books(120):
            least, greatest = self.check(book)
            found[bool(least), bool(greatest)] = found.get((bool(least), bool(greatest)), 0) + 1
        self.assertEqual(len(found), 3)
        self.assertGreater(min(found.values()), 2)

    def test_each_part_of_a_sure_one_is_sure(self):
        """Point 3 (f)."""
        for book in chance_books(60):
            for text in greatest_sure(book):
                part = part_by(book, text)
                self.assertTrue(all(is_sure(part, other) for other in texts_of(part)))

    def test_called_otherwise_and_in_another_order(self):
        """Point 3 (g)."""
        for book in chance_books(80):
            other = book_otherwise(book)
            for call in (least_wrong, greatest_sure):
                self.assertEqual(call(other), sorted(text[::-1] for text in call(book)))

    def test_the_lists_are_new_ones(self):
        for call in (least_wrong, greatest_sure):
            expected = call(skewed_book())
            book = skewed_book()
            call(book=book).clear()
            self.assertEqual(call(book), expected)


if __name__ == "__main__":
    unittest.main()
