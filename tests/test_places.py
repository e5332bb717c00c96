"""Places and what stands beside what (points 9 and 10)."""

import itertools
import unittest

from snapsure.errors import BookError, NoDealing, StepError
from snapsure.places import bare_places, beside, meets, places_of
from tests.samples import odd_things, small_book, unchanged


def book_of(letters, steps):
    """A book of one dealing, k of many keys, l and m of one."""
    return ([("k", True), ("l", False), ("m", False)], [("d", letters, steps)])


def told(letters, steps):
    return places_of(book_of(letters, steps), "d")


class Places(unittest.TestCase):

    def test_places(self):
        self.assertEqual(unchanged(self, places_of, small_book(), "take"),
                         [("a", "row", True, False), ("b", "row", False, True), ("s", "sum", True, True)])
        self.assertEqual(places_of(small_book(), "put"), [("x", "row", True, True)])

    def test_what_each_deed_does_at_a_place(self):
        for kind in ("k", "l"):
            for many in (1, 2, 3):
                for deeds in itertools.product(("read", "write", "ask"), repeat=many):
                    reads = "read" in deeds or "ask" in deeds
                    writes = "write" in deeds or "ask" in deeds
                    found = told([("a", kind)], [(deed, "a") for deed in deeds])
                    self.assertEqual(found, [("a", kind, reads, writes)])
                    self.assertIs(found[0][2], reads)
                    self.assertIs(found[0][3], writes)

    def test_each_letter_of_a_kind_with_many_keys_is_a_place(self):
        self.assertEqual(told([("a", "k"), ("b", "k"), ("c", "k")], [("write", "c"), ("read", "a"), ("ask", "b")]),
                         [("a", "k", True, False), ("b", "k", True, True), ("c", "k", False, True)])

    def test_all_letters_of_a_kind_with_one_key_are_one_place(self):
        self.assertEqual(told([("a", "l"), ("b", "l")], [("read", "a"), ("write", "b")]), [("a", "l", True, True)])
        self.assertEqual(told([("a", "l"), ("b", "l"), ("c", "l")], [("read", "a"), ("read", "b"), ("read", "c")]),
                         [("a", "l", True, False)])
        self.assertEqual(told([("a", "l"), ("b", "l"), ("c", "l")], [("read", "a"), ("read", "b"), ("ask", "c")]),
                         [("a", "l", True, True)])
        self.assertEqual(told([("a", "l"), ("b", "l")], [("write", "a"), ("write", "b")]), [("a", "l", False, True)])

    def test_two_kinds_with_one_key_are_two_places(self):
        self.assertEqual(told([("a", "l"), ("b", "m"), ("c", "l"), ("d", "m")],
                              [("read", "a"), ("write", "b"), ("read", "c"), ("write", "d")]),
                         [("a", "l", True, False), ("b", "m", False, True)])

    def test_a_place_is_told_by_the_first_letter_in_the_list_not_by_the_alphabet(self):
        self.assertEqual(told([("z", "l"), ("a", "l")], [("read", "a"), ("write", "z")]), [("z", "l", True, True)])
        self.assertEqual(told([("c", "k"), ("z", "l"), ("a", "l"), ("b", "k")],
                              [("read", "a"), ("write", "b"), ("read", "c"), ("read", "z")]),
                         [("c", "k", True, False), ("z", "l", True, False), ("b", "k", False, True)])

    def test_places_stand_in_the_order_of_letters(self):
        self.assertEqual(told([("d", "k"), ("b", "m"), ("c", "l"), ("a", "k")],
                              [("read", "a"), ("read", "b"), ("read", "c"), ("read", "d")]),
                         [("d", "k", True, False), ("b", "m", True, False), ("c", "l", True, False),
                          ("a", "k", True, False)])

    def test_the_list_is_a_new_one(self):
        book = small_book()
        places_of(book, "take").clear()
        self.assertEqual(len(places_of(book, "take")), 3)
        self.assertEqual(book, small_book())

    def test_by_name(self):
        self.assertEqual(places_of(name="put", book=small_book()), [("x", "row", True, True)])
        self.assertEqual(bare_places(name="take", book=small_book()), [("a", "row", True, False)])
        self.assertEqual(beside(name="put", book=small_book()), [0, 1])
        self.assertIs(meets(other=("a", "k", True, False), one=("b", "k", False, True)), True)


class Bare(unittest.TestCase):

    def test_a_bare_place_reads_and_does_not_write(self):
        book = book_of([("a", "k"), ("b", "k"), ("c", "k"), ("d", "k")],
                       [("read", "a"), ("write", "b"), ("ask", "c"), ("read", "d"), ("write", "d")])
        self.assertEqual(unchanged(self, bare_places, book, "d"), [("a", "k", True, False)])

    def test_all_of_them_in_order(self):
        book = book_of([("c", "k"), ("a", "l"), ("b", "l"), ("d", "m")],
                       [("read", "a"), ("read", "b"), ("read", "c"), ("read", "d")])
        self.assertEqual(bare_places(book, "d"),
                         [("c", "k", True, False), ("a", "l", True, False), ("d", "m", True, False)])

    def test_none(self):
        self.assertEqual(bare_places(small_book(), "put"), [])
        self.assertEqual(bare_places(book_of([("a", "l"), ("b", "l")], [("read", "a"), ("write", "b")]), "d"), [])

    def test_the_list_is_a_new_one(self):
        bare_places(small_book(), "take").clear()
        self.assertEqual(len(bare_places(small_book(), "take")), 1)


class Meets(unittest.TestCase):

    def test_each_two(self):
        forms = [(letter, kind, reads, writes) for letter in "ab" for kind in ("k", "l")
                 for reads, writes in ((True, False), (False, True), (True, True))]
        for one in forms:
            for other in forms:
                expected = one[1] == other[1] and (one[3] or other[3])
                self.assertIs(unchanged(self, meets, one, other), expected)
                self.assertIs(meets(other, one), expected)

    def test_one_of_them_writes_or_both_do(self):
        reader, writer = ("a", "k", True, False), ("b", "k", False, True)
        self.assertIs(meets(reader, writer), True)
        self.assertIs(meets(writer, reader), True)
        self.assertIs(meets(writer, ("c", "k", True, True)), True)
        self.assertIs(meets(reader, ("c", "k", True, False)), False)

    def test_of_one_kind(self):
        self.assertIs(meets(("a", "k", True, True), ("a", "l", True, True)), False)

    def test_a_place_meets_itself_where_it_writes(self):
        for writes in (True, False):
            place = ("a", "k", True, writes)
            self.assertIs(meets(place, place), writes)


class Beside(unittest.TestCase):

    def book(self):
        """Who writes which kind with one key: none, l, m, l and m by an ask and a write, none (but reads both)."""
        return (
            [("k", True), ("l", False), ("m", False)],
            [
                ("keys", [("a", "k"), ("b", "k")], [("write", "a"), ("ask", "b")]),
                ("ell", [("a", "l")], [("write", "a")]),
                ("em", [("a", "k"), ("b", "m")], [("read", "a"), ("read", "b"), ("write", "b")]),
                ("both", [("a", "l"), ("c", "l"), ("b", "m")], [("read", "a"), ("ask", "c"), ("write", "b")]),
                ("reads", [("a", "l"), ("b", "m")], [("read", "a"), ("read", "b")]),
            ],
        )

    def test_beside(self):
        book = self.book()
        self.assertEqual(unchanged(self, beside, book, "keys"), [0, 1, 2, 3, 4])
        self.assertEqual(beside(book, "ell"), [0, 2, 4])
        self.assertEqual(beside(book, "em"), [0, 1, 4])
        self.assertEqual(beside(book, "both"), [0, 4])
        self.assertEqual(beside(book, "reads"), [0, 1, 2, 3, 4])

    def test_both_stand_beside_each_other(self):
        book = self.book()
        names = [name for name, _, _ in book[1]]
        for one, other in itertools.product(range(5), repeat=2):
            self.assertEqual(other in beside(book, names[one]), one in beside(book, names[other]))

    def test_a_dealing_stands_beside_itself_where_it_writes_no_kind_with_one_key(self):
        self.assertEqual(beside(small_book(), "take"), [1])
        self.assertEqual(beside(small_book(), "put"), [0, 1])
        self.assertEqual(beside(book_of([("a", "l")], [("read", "a")]), "d"), [0])
        self.assertEqual(beside(book_of([("a", "l")], [("ask", "a")]), "d"), [])

    def test_the_list_is_a_new_one(self):
        beside(small_book(), "put").clear()
        self.assertEqual(beside(small_book(), "put"), [0, 1])


class NoDealings(unittest.TestCase):

    def test_no_name_of_a_dealing(self):
        for call in (places_of, bare_places, beside):
            for at, thing in enumerate(odd_things() + ["row", "sum", "a", "takes", 0, 1, ["take"], ("put",)]):
                with self.subTest(at), self.assertRaises(NoDealing) as caught:
                    call(small_book(), thing)
                self.assertIsInstance(caught.exception, StepError)
                self.assertNotIsInstance(caught.exception, BookError)
            with self.assertRaises(NoDealing):
                unchanged(self, call, small_book(), "none")


if __name__ == "__main__":
    unittest.main()
