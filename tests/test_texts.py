"""Books as texts (point 7, and point 3 (i))."""

import unittest

from snapsure.books import look_at_book
from snapsure.errors import BookError, NoBook, NoText, StepError
from snapsure.texts import read, shown
from tests.samples import Alike, Odd, odd_things, small_book, unchanged, wide_book

SMALL = """kind row many
kind sum one
deal take a:row b:row s:sum
read a
write b
ask s
deal put x:row
write x
read x"""
ROWS = SMALL.split("\n")

# Rows that are none by themselves, wherever they stand.
NO_ROWS = [
    "", " ", "  ", "\t", "x", "kinds row many", "Kind row many", "KIND row many", "deals d a:row", "reads a", "Read a",
    "begin take", "end 0", "drop 0", "many", "one", "row", ":", "a:row", "#", "kind\trow\tmany", "kind\trow many",
    "kind", "kind row", "kind row many many", "kind row many one", "kind many",
    "kind row Many", "kind row MANY", "kind row true", "kind row two", "kind row 1", "kind row many\t", "kind row one:",
    "kind  row many", "kind row  many", " kind row many", "kind row many ", "kind row ", "kind  many", "kind ", " kind",
    "deal", "deal d", "deal d ", "deal  a:row", "deal d  a:row", "deal d a:row ", " deal d a:row", "deal d a:row  b:row",
    "deal d a", "deal d a row", "deal d a:row b", "deal d b a:row", "deal d a:row row:", "deal d :", "deal d ::",
    "deal d a:", "deal d :row", "deal d a::row", "deal d a:b:row", "deal d a:row:", "deal d :a:row", "deal a:row",
    "deal d a:row ,", "deal d\ta:row", "deal d a:row :row", "deal d a:row b:", "deal d a:row b::row",
    "read", "read ", "read a b", "read  a", "read a ", " read a", "read\ta", "read a a", "read a:row b",
    "write", "write ", "write a b", "write  a", "write a ", " write a", "write\ta",
    "ask", "ask ", "ask a b", "ask  a", "ask a ", " ask a", "ask\ta",
]
DEED_ROWS = ["read a", "write a", "ask a"]


class Written(unittest.TestCase):

    def test_the_text_of_a_book(self):
        self.assertEqual(unchanged(self, shown, small_book()), SMALL)

    def test_the_text_of_the_least_book(self):
        self.assertEqual(shown(([("k", False)], [("d", [("z", "k")], [("ask", "z")])])),
                         "kind k one\ndeal d z:k\nask z")

    def test_by_name(self):
        self.assertEqual(shown(book=small_book()), SMALL)
        self.assertEqual(read(text=SMALL), small_book())

    def test_letters_stand_in_their_order(self):
        book = ([("k", True)], [("d", [("c", "k"), ("a", "k"), ("b", "k")], [("read", "a"), ("read", "b"), ("read", "c")])])
        self.assertEqual(shown(book).split("\n")[1], "deal d c:k a:k b:k")


class ReadBack(unittest.TestCase):

    def test_what_is_written_is_read_back(self):
        for book in (small_book(), wide_book(), ([("k", False)], [("d", [("z", "k")], [("ask", "z")])])):
            again = read(unchanged(self, shown, book))
            self.assertEqual(again, book)
            self.assertIsNone(look_at_book(again))
            self.assertIs(again[0][0][1], book[0][0][1])

    def test_what_is_read_is_written_back(self):
        self.assertEqual(shown(read(SMALL)), SMALL)

    def test_the_lists_are_new_ones(self):
        book = small_book()
        again = read(shown(book))
        self.assertIsNot(again[0], book[0])
        again[0].clear()
        again[1][0][1].clear()
        again[1][0][2].clear()
        again[1].clear()
        self.assertEqual(book, small_book())
        self.assertEqual(read(shown(book)), small_book())

    def test_words_of_the_text_may_be_names(self):
        text = "kind kind one\nkind many many\ndeal read k:kind m:many\nread k\nask m\ndeal deal w:many\nwrite w"
        book = ([("kind", False), ("many", True)],
                [("read", [("k", "kind"), ("m", "many")], [("read", "k"), ("ask", "m")]),
                 ("deal", [("w", "many")], [("write", "w")])])
        self.assertEqual(read(text), book)
        self.assertEqual(shown(book), text)


class NoTexts(unittest.TestCase):

    def refused(self, text, row):
        with self.assertRaises(NoText) as caught:
            unchanged(self, read, text)
        self.assertEqual(caught.exception.row, row)
        self.assertIsInstance(caught.exception, BookError)
        self.assertNotIsInstance(caught.exception, StepError)

    def test_a_text_without_signs(self):
        self.refused("", 0)

    def test_line_feeds(self):
        self.refused("\n", 0)
        self.refused("\n" + SMALL, 0)
        self.refused(SMALL + "\n", 9)
        self.refused(SMALL + "\n\n", 9)
        for at in range(1, 9):
            self.refused("\n".join(ROWS[:at] + [""] + ROWS[at:]), at)

    def test_other_ends_of_lines_do_not_part_rows(self):
        for sign in ("\r", "\f", "\v", "\x1c", "\u2028", "\x85"):
            self.refused("kind row many" + sign + "kind sum one\ndeal d a:row\nread a", 0)
        self.refused("kind row many\r\nkind sum one", 0)

    def test_a_row_that_is_none_by_itself(self):
        for row in NO_ROWS:
            for at in range(9):
                with self.subTest(row, at=at):
                    self.refused("\n".join(ROWS[:at] + [row] + ROWS[at + 1:]), at)
                    self.refused("\n".join(ROWS[:at] + [row] + ROWS[at:]), at)
            self.refused(SMALL + "\n" + row, 9)
            self.refused(row, 0)

    def test_the_first_row_that_is_none_is_told(self):
        for at in range(9):
            for other in range(at + 1, 9):
                rows = list(ROWS)
                rows[at] = "none"
                rows[other] = "kind"
                self.refused("\n".join(rows), at)

    def test_a_kind_behind_a_deal(self):
        for at in range(3, 10):
            self.refused("\n".join(ROWS[:at] + ["kind more many"] + ROWS[at:]), at)
        self.refused("deal d a:k\nkind k many", 1)
        self.refused("deal d a:k\nread a\nkind k one", 2)

    def test_a_step_ahead_of_any_deal(self):
        for row in DEED_ROWS:
            for at in range(3):
                self.refused("\n".join(ROWS[:at] + [row] + ROWS[at:]), at)
            self.refused(row, 0)

    def test_the_first_of_all_of_these_is_told(self):
        self.refused("kind k many\nread a\nnone", 1)
        self.refused("kind k many\nnone\nread a", 1)
        self.refused("kind k many\ndeal d a:k\nkind l one\nnone", 2)
        self.refused("kind k many\ndeal d a:k\nread a b\nkind l one", 2)
        self.refused("read a\ndeal d a:k\nkind l one", 0)
        self.refused("kind k many\nread a\ndeal d a:k\nkind l one", 1)

    def test_what_is_no_text(self):
        for at, thing in enumerate(odd_things() + [Odd(), Alike(), SMALL.encode(), ROWS, tuple(ROWS), small_book()]):
            if not isinstance(thing, str):
                with self.subTest(at), self.assertRaises(NoText) as caught:
                    read(thing)
                self.assertEqual(caught.exception.row, 0)

    def test_no_text_goes_ahead_of_no_book(self):
        self.refused("kind A many\nkind A many\ndeal d a:none\nread z\nnone", 4)
        self.refused("deal d a:none\nread z\nkind k many", 2)
        self.refused("kind k many\n" * 7 + "read a", 7)
        self.refused("kind k many\ndeal d ab:k\nread", 2)


class NoBooks(unittest.TestCase):
    """All rows are rows, but they make no book: names are taken as they stand."""

    def refused(self, text, part, at, place):
        with self.assertRaises(NoBook) as caught:
            read(text)
        found = caught.exception
        self.assertEqual((found.part, found.at, found.place), (part, at, place))

    def test_kinds(self):
        self.refused("deal d a:k\nread a", "kinds", None, None)
        self.refused("\n".join([f"kind {sign} many" for sign in "abcdefg"]) + "\ndeal d a:a\nread a",
                     "kinds", None, None)
        for name in ("A", "Row", "abcdefghi", "r1", "r:w", ":", "r\tw", "row,", "\t", "\r"):
            self.refused(f"kind k one\nkind {name} many\ndeal d a:k\nread a", "kinds", 1, None)
        self.refused("kind k one\nkind k many\ndeal d a:k\nread a", "kinds", 1, None)

    def test_dealings(self):
        self.refused("kind k many", "dealings", None, None)
        self.refused("kind k many\nkind l one", "dealings", None, None)
        self.refused("kind k many" + "\ndeal d a:k\nread a" * 9, "dealings", None, None)
        for name in ("D", "abcdefghi", "d:k", "a:", ":", "1", "d\t"):
            self.refused(f"kind k one\ndeal {name} a:k\nread a", "dealings", 0, None)
        self.refused("kind k one\ndeal d a:k\nread a\ndeal d a:k\nread a", "dealings", 1, None)

    def test_letters(self):
        self.refused("kind k many\ndeal d a:k b:k c:k d:k e:k\nread a", "letters", 0, None)
        for word in ("ab:k", "A:k", "1:k", "a:l", "a:K", "c:k", "a:k,", "\t:k", "a\t:k"):
            self.refused(f"kind k many\ndeal d c:k {word}\nread c", "letters", 0, 1)
        self.refused("kind k many\ndeal d a:k b:k\nread b", "letters", 0, 0)

    def test_steps(self):
        self.refused("kind k many\ndeal d a:k", "steps", 0, None)
        self.refused("kind k many\ndeal d a:k\ndeal e a:k\nread a", "steps", 0, None)
        self.refused("kind k many\ndeal d a:k\nread a\ndeal e a:k", "steps", 1, None)
        self.refused("kind k many\ndeal d a:k" + "\nread a" * 9, "steps", 0, None)
        for letter in ("b", "A", "aa", "a:k", ":", "a\t", "1"):
            self.refused(f"kind k many\ndeal d a:k\nread a\nwrite {letter}", "steps", 0, 1)

    def test_the_first_fault_of_the_book_is_told(self):
        self.refused("kind K many\ndeal D a:k\nread b", "kinds", 0, None)
        self.refused("kind k many\ndeal d a:l\nread b\ndeal D a:k", "letters", 0, 0)


if __name__ == "__main__":
    unittest.main()
