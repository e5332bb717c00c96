"""Books called otherwise, and parts by number (point 8, and point 3 (g))."""

import unittest

from snapsure.books import look_at_book
from snapsure.errors import BookError, NoNames, NoPart, StepError
from snapsure.naming import chosen, renamed
from snapsure.places import beside, places_of
from snapsure.stepper import Stepper
from tests.samples import Alike, Odd, odd_things, small_book, unchanged, wide_book

NO_NAME_LISTS = [[], ["one"], ["one", "two", "three"], ["one", "one"], ["One", "two"], ["one", ""], ["", "two"],
                 ["one", "abcdefghi"], ["one", "two "], ["one", "tw\n"], ["one", None], [1, "two"], ["one", b"two"],
                 ["one", True], ["one", ["two"]], [["one"], ["two"]], [Odd(), Odd()], [Alike(), Alike()], [{}, {}],
                 ("one", "two"), "ab", {"one": 1, "two": 2}, {"one", "two"}, b"ab", 2, 0, False, True, Odd(), Alike(),
                 iter(["one", "two"]), object(), [("one",), ("two",)]]
NO_LETTER_LISTS = [[], ["cde"], ["cde", "f", "g"], ["cd", "f"], ["cdef", "f"], ["cde", ""], ["cde", "fg"], ["", "f"],
                   ["cdc", "f"], ["ccc", "f"], ["cdE", "f"], ["c e", "f"], ["cd\n", "f"], ["cde", "\n"], ["cde", "A"],
                   ["cde", "1"], ["f", "cde"], [["c", "d", "e"], "f"], [("c", "d", "e"), ("f",)], [b"cde", b"f"],
                   ["cde", None], [None, "f"], ["cde", 1], [True, False], [Odd(), Odd()], [Alike(), Alike()], [{}, []],
                   ("cde", "f"), "ab", "cdef", {"cde": 1, "f": 2}, {"cde", "f"}, b"ab", 2, 0, False, True, Odd(),
                   Alike(), iter(["cde", "f"]), object()]


class Renamed(unittest.TestCase):

    def test_kinds_alone(self):
        self.assertEqual(unchanged(self, renamed, small_book(), ["line", "total"]), (
            [("line", True), ("total", False)],
            [
                ("take", [("a", "line"), ("b", "line"), ("s", "total")],
                 [("read", "a"), ("write", "b"), ("ask", "s")]),
                ("put", [("x", "line")], [("write", "x"), ("read", "x")]),
            ],
        ))

    def test_dealings_alone(self):
        kinds, dealings = small_book()
        self.assertEqual(unchanged(self, renamed, small_book(), None, ["get", "set"]),
                         (kinds, [("get",) + dealings[0][1:], ("set",) + dealings[1][1:]]))

    def test_letters_alone(self):
        self.assertEqual(unchanged(self, renamed, small_book(), None, None, ["pqr", "a"]), (
            [("row", True), ("sum", False)],
            [
                ("take", [("p", "row"), ("q", "row"), ("r", "sum")],
                 [("read", "p"), ("write", "q"), ("ask", "r")]),
                ("put", [("a", "row")], [("write", "a"), ("read", "a")]),
            ],
        ))

    def test_all_together(self):
        self.assertEqual(unchanged(self, renamed, small_book(), ["k", "l"], ["d", "e"], ["mno", "m"]), (
            [("k", True), ("l", False)],
            [
                ("d", [("m", "k"), ("n", "k"), ("o", "l")], [("read", "m"), ("write", "n"), ("ask", "o")]),
                ("e", [("m", "k")], [("write", "m"), ("read", "m")]),
            ],
        ))

    def test_by_name(self):
        both = renamed(small_book(), letters=["pqr", "a"], kinds=["k", "l"])
        self.assertEqual(both, renamed(small_book(), ["k", "l"], None, ["pqr", "a"]))
        self.assertEqual(renamed(dealings=["d", "e"], book=small_book()), renamed(small_book(), None, ["d", "e"]))

    def test_none(self):
        book = small_book()
        for told in (renamed(book), renamed(book, None, None, None),
                     renamed(book, ["row", "sum"], ["take", "put"], ["abs", "x"])):
            self.assertEqual(told, small_book())

    def test_names_exchanged_among_themselves(self):
        told = renamed(small_book(), ["sum", "row"], ["put", "take"], ["bsa", "x"])
        self.assertEqual(told, (
            [("sum", True), ("row", False)],
            [
                ("put", [("b", "sum"), ("s", "sum"), ("a", "row")], [("read", "b"), ("write", "s"), ("ask", "a")]),
                ("take", [("x", "sum")], [("write", "x"), ("read", "x")]),
            ],
        ))

    def test_told_is_a_book_whose_lists_are_new_ones(self):
        book = small_book()
        for args in ((), (["k", "l"],), (None, ["d", "e"]), (None, None, ["pqr", "a"])):
            told = renamed(book, *args)
            self.assertIsNone(look_at_book(told))
            told[1][0][1].clear()
            told[1][1][2].clear()
            told[0].clear()
            told[1].clear()
            self.assertEqual(book, small_book())

    def test_the_names_that_were_handed_in_are_not_kept(self):
        names = [["k", "l"], ["d", "e"], ["pqr", "a"]]
        told = renamed(small_book(), *names)
        ahead = renamed(small_book(), *names)
        for own in names:
            own[0] = "zzz"
        self.assertEqual(told, ahead)

    def test_back_again(self):
        there = renamed(small_book(), ["k", "l"], ["d", "e"], ["mno", "m"])
        self.assertEqual(renamed(there, ["row", "sum"], ["take", "put"], ["abs", "x"]), small_book())

    def test_the_most_of_all(self):
        names = [sign * 8 for sign in "stuvwxyz"]
        told = renamed(wide_book(), names[:6], names, ["abcd", "dcba", "wxyz", "zabc"] * 2)
        self.assertIsNone(look_at_book(told))
        self.assertEqual([name for name, _ in told[0]], names[:6])
        self.assertEqual([name for name, _, _ in told[1]], names)


class NotRenamed(unittest.TestCase):

    def refused(self, which, *args):
        with self.assertRaises(NoNames) as caught:
            renamed(*args)
        self.assertEqual(caught.exception.which, which)
        self.assertIsInstance(caught.exception, BookError)
        self.assertNotIsInstance(caught.exception, StepError)

    def test_kinds(self):
        for at, thing in enumerate(NO_NAME_LISTS):
            with self.subTest(at):
                self.refused("kinds", small_book(), thing)

    def test_dealings(self):
        for at, thing in enumerate(NO_NAME_LISTS):
            with self.subTest(at):
                self.refused("dealings", small_book(), None, thing)
                self.refused("dealings", small_book(), ["k", "l"], thing)

    def test_letters(self):
        for at, thing in enumerate(NO_LETTER_LISTS):
            with self.subTest(at):
                self.refused("letters", small_book(), None, None, thing)
                self.refused("letters", small_book(), ["k", "l"], ["d", "e"], thing)

    def test_of_anything(self):
        for at, thing in enumerate(odd_things()):
            if thing is not None:
                with self.subTest(at):
                    self.refused("kinds", small_book(), thing)
                    self.refused("dealings", small_book(), None, thing)
                    self.refused("letters", small_book(), None, None, thing)
            with self.subTest(at):
                wrong = not (isinstance(thing, str) and thing == "nosuchnm")
                if wrong:
                    self.refused("kinds", small_book(), ["k", thing])
                    self.refused("dealings", small_book(), None, [thing, "e"])
                self.refused("letters", small_book(), None, None, [thing, "a"])

    def test_the_first_of_these_that_is_none(self):
        self.refused("kinds", small_book(), [], [], [])
        self.refused("kinds", small_book(), Odd(), Odd(), Odd())
        self.refused("kinds", small_book(), ["k", "k"], ["d", "e"], [])
        self.refused("dealings", small_book(), None, [], [])
        self.refused("dealings", small_book(), ["k", "l"], ["d", "d"], [])

    def test_a_letter_of_a_text_may_not_be_twice_but_in_two_texts(self):
        self.assertEqual(renamed(small_book(), None, None, ["abc", "a"])[1][1][1], [("a", "row")])
        self.refused("letters", small_book(), None, None, ["aba", "a"])

    def test_what_is_refused_stays(self):
        for args in ((["k"],), (None, ["d", "d"]), (None, None, ["ab", "c"])):
            with self.assertRaises(NoNames):
                unchanged(self, renamed, small_book(), *args)


class Chosen(unittest.TestCase):

    def book(self):
        kinds = [("k", True), ("l", False), ("m", True)]
        return (kinds, [(name, [("a", "k")], [("read", "a"), ("write", "a")]) for name in ("one", "two", "three")])

    def test_parts(self):
        kinds, (one, two, three) = self.book()
        for numbers, dealings in (([0], [one]), ([2], [three]), ([0, 1], [one, two]), ([1, 0], [two, one]),
                                  ([2, 0], [three, one]), ([0, 1, 2], [one, two, three]), ([2, 0, 1], [three, one, two]),
                                  ([2, 1, 0], [three, two, one])):
            told = unchanged(self, chosen, self.book(), numbers)
            self.assertEqual(told, (kinds, dealings))
            self.assertIsNone(look_at_book(told))

    def test_by_name(self):
        self.assertEqual(chosen(numbers=[1], book=self.book())[1], [self.book()[1][1]])

    def test_the_lists_are_new_ones(self):
        book = self.book()
        told = chosen(book, [0, 1, 2])
        told[1][0][1].clear()
        told[1][1][2].clear()
        told[0].clear()
        told[1].clear()
        self.assertEqual(book, self.book())

    def test_no_part(self):
        things = [[], [0, 0], [1, 2, 1], [0, 1, 2, 0], [3], [0, 3], [8], [10 ** 59], [-1], [0, -1], [-3], [True], [False],
                  [0, True], [1, False], [True, False], [None], ["0"], [""], ["one"], [[0]], [(0,)], [b"0"], [Odd()],
                  [Alike()], [0, Odd()], [0, {}], (0,), (0, 1), {0}, {0: 1}, "0", "012", b"0", 0, 1, None, True, False,
                  range(2), iter([0]), object(), Odd(), Alike(), [0, 1, 2, 3], [0] * 100]
        for at, thing in enumerate(things + odd_things()):
            with self.subTest(at), self.assertRaises(NoPart) as caught:
                chosen(self.book(), thing)
            self.assertIsInstance(caught.exception, BookError)
            self.assertNotIsInstance(caught.exception, StepError)

    def test_refused_what_was_handed_in_stays(self):
        for numbers in ([], [0, 0], [3], [True]):
            with self.assertRaises(NoPart):
                unchanged(self, chosen, self.book(), numbers)


class TellsAlike(unittest.TestCase):
    """What is called otherwise, or ordered otherwise, tells alike."""

    def test_places_of_a_book_called_otherwise(self):
        there = renamed(small_book(), ["sum", "row"], ["put", "take"], ["bsa", "x"])
        self.assertEqual(places_of(there, "put"),
                         [("b", "sum", True, False), ("s", "sum", False, True), ("a", "row", True, True)])
        self.assertEqual([beside(there, name) for name in ("put", "take")],
                         [beside(small_book(), name) for name in ("take", "put")])

    def test_places_of_dealings_in_another_order(self):
        there = chosen(small_book(), [1, 0])
        for name in ("take", "put"):
            self.assertEqual(places_of(there, name), places_of(small_book(), name))
            self.assertEqual([1 - number for number in beside(there, name)], beside(small_book(), name)[::-1])

    def test_steps_of_a_book_called_otherwise(self):
        here = Stepper(small_book())
        there = Stepper(chosen(renamed(small_book(), ["sum", "row"], ["put", "take"], ["bsa", "x"]), [1, 0]))
        now = {"row": "sum", "sum": "row"}
        for ours, theirs in (("take", "put"), ("take", "put"), ("put", "take")):
            self.assertEqual(here.begin(ours), there.begin(theirs))
        for number in (0, 1, 0, 1, 2, 0, 1, 2):
            deed, (kind, at), seen = here.step(number)
            self.assertEqual(there.step(number), (deed, (now[kind], at), seen))
        for number in (1, 0, 2):
            self.assertEqual(here.end(number), there.end(number))
        self.assertEqual(str(here), str(there))


if __name__ == "__main__":
    unittest.main()
