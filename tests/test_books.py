"""Names, letters and books (points 4 and 5)."""

import copy
import unittest

from snapsure.books import dealing_by, has_many, is_letter, is_name, look_at_book
from snapsure.errors import BookError, NoBook, NoDealing, StepError
from tests.samples import Alike, Odd, odd_things, small_book, unchanged, wide_book

NO_NAMES = ["", "abcdefghi", "A", "aB", "`", "{", "a`", "{a", "a\n", "\na", "\n", "a b", " a", "a ", "a1", "0",
            "a_", "a-b", "a\t", "\u00e9", "a\u0301", "\u03b1", "\uff41", "abcdefgh\n"]
NO_TEXTS = [None, True, False, 0, 1, -1, b"a", ["a"], ("a",), {"a": 1}, {"a"}, [], (), object(), Odd(), Alike(),
            bytearray(b"a"), str, lambda: "a", ["a", "b"], 97]
NO_TRUTHS = [None, 0, 1, "", "many", "True", [], [True], (True,), object(), Odd(), Alike()]
NO_LISTS = [None, True, 0, "ab", (), ("a",), {}, {"a": 1}, set(), {"a"}, range(1), iter([1]), object(), Odd(), Alike()]
NO_PAIRS = [None, True, 3, "ab", b"ab", [], (), ("a",), {}, {"a": 1, "b": 2}, {"a", "b"}, range(2), object(), Odd(),
            Alike()]


class Names(unittest.TestCase):

    def test_names(self):
        for name in ("a", "z", "az", "take", "abcdefg", "abcdefgh", "zzzzzzzz", "aa"):
            self.assertIs(is_name(name), True, name)

    def test_no_names(self):
        for name in NO_NAMES:
            self.assertIs(is_name(name), False, repr(name))

    def test_what_is_no_text_is_no_name(self):
        for at, thing in enumerate(NO_TEXTS):
            self.assertIs(is_name(thing), False, at)

    def test_letters(self):
        for letter in "abcdefghijklmnopqrstuvwxyz":
            self.assertIs(is_letter(letter), True, letter)

    def test_no_letters(self):
        for letter in NO_NAMES + ["ab", "aa", "abcdefgh"]:
            self.assertIs(is_letter(letter), False, repr(letter))

    def test_what_is_no_text_is_no_letter(self):
        for at, thing in enumerate(NO_TEXTS):
            self.assertIs(is_letter(thing), False, at)

    def test_by_name(self):
        self.assertIs(is_name(thing="a"), True)
        self.assertIs(is_letter(thing="ab"), False)


class Looked(unittest.TestCase):
    """Each test puts something wrong into a book and says what must be told of it."""

    def refused(self, thing, part, at, place):
        with self.assertRaises(NoBook) as caught:
            look_at_book(thing)
        found = caught.exception
        self.assertEqual((found.part, found.at, found.place), (part, at, place))
        self.assertIsInstance(found, BookError)
        self.assertNotIsInstance(found, StepError)

    def test_books(self):
        for book in (small_book(), wide_book(), ([("k", False)], [("d", [("a", "k")], [("ask", "a")])])):
            self.assertIsNone(unchanged(self, look_at_book, book))
            self.assertIsNone(look_at_book(thing=book))

    def test_each_thing_may_have_its_most(self):
        kinds, dealings = wide_book()
        self.assertEqual((len(kinds), len(dealings), len(dealings[0][1]), len(dealings[0][2])), (6, 8, 4, 8))

    def test_letters_of_two_dealings_may_be_alike_and_kinds_be_unused(self):
        look_at_book(([("k", True), ("l", False)],
                      [("a", [("a", "k"), ("b", "k")], [("read", "b"), ("read", "a")]),
                       ("k", [("a", "k")], [("write", "a"), ("write", "a")])]))

    def test_no_tuple_of_two(self):
        kinds, dealings = small_book()
        for thing in NO_PAIRS + odd_things()[:30] + [[kinds, dealings], (kinds,), (kinds, dealings, []),
                                                     {"kinds": kinds, "dealings": dealings}]:
            self.refused(thing, None, None, None)

    def test_kinds_are_no_list_of_one_to_six(self):
        kinds, dealings = wide_book()
        for thing in NO_LISTS + [[], kinds + [("more", True)], tuple(kinds), dict(kinds)]:
            self.refused((thing, dealings), "kinds", None, None)

    def test_the_length_of_kinds_goes_ahead_of_a_kind(self):
        self.refused(([None] * 7, small_book()[1]), "kinds", None, None)

    def test_a_kind_is_none(self):
        kinds, dealings = wide_book()
        none = NO_PAIRS + [["ke", True], ("ke",), ("ke", True, True)]
        none += [(name, True) for name in NO_NAMES + NO_TEXTS]
        none += [("name", many) for many in NO_TRUTHS]
        for at in range(6):
            for thing in none:
                wrong = list(kinds)
                wrong[at] = thing
                self.refused((wrong, dealings), "kinds", at, None)

    def test_a_kind_stood_ahead(self):
        kinds, dealings = wide_book()
        for at in range(1, 6):
            for ahead in range(at):
                for many in (True, False):
                    wrong = list(kinds)
                    wrong[at] = (kinds[ahead][0], many)
                    self.refused((wrong, dealings), "kinds", at, None)

    def test_the_first_wrong_kind_is_told(self):
        dealings = small_book()[1]
        self.refused(([("row", True), ("row", True), None], dealings), "kinds", 1, None)
        self.refused(([("row", True), None, ("row", True)], dealings), "kinds", 1, None)
        self.refused(([("row", 1), ("row", True)], dealings), "kinds", 0, None)

    def test_dealings_are_no_list_of_one_to_eight(self):
        kinds, dealings = wide_book()
        for thing in NO_LISTS + [[], dealings + [("more", dealings[0][1], dealings[0][2])], tuple(dealings)]:
            self.refused((kinds, thing), "dealings", None, None)
        self.refused((kinds, [None] * 9), "dealings", None, None)

    def test_kinds_go_ahead_of_dealings(self):
        self.refused(([], []), "kinds", None, None)
        self.refused(([("A", True)], None), "kinds", 0, None)
        self.refused((Odd(), Odd()), "kinds", None, None)

    def with_dealing(self, at, dealing):
        kinds, dealings = wide_book()
        dealings[at] = dealing
        return (kinds, dealings)

    def test_a_dealing_is_no_tuple_of_three(self):
        name, letters, steps = wide_book()[1][0]
        for at in range(8):
            for thing in NO_PAIRS + NO_LISTS + [[name + "x", letters, steps], (letters, steps), ("other", letters),
                                                ("other", letters, steps, steps)]:
                self.refused(self.with_dealing(at, thing), "dealings", at, None)

    def test_the_name_of_a_dealing_is_none(self):
        _, letters, steps = wide_book()[1][0]
        for at in range(8):
            for name in NO_NAMES + NO_TEXTS:
                self.refused(self.with_dealing(at, (name, letters, steps)), "dealings", at, None)

    def test_the_name_of_a_dealing_stood_ahead(self):
        kinds, dealings = wide_book()
        for at in range(1, 8):
            for ahead in range(at):
                again = (dealings[ahead][0], dealings[at][1], dealings[at][2])
                self.refused(self.with_dealing(at, again), "dealings", at, None)

    def test_letters_are_no_list_of_one_to_four(self):
        name, letters, steps = wide_book()[1][3]
        for at in range(8):
            for thing in NO_LISTS + [[], letters + [("e", "ka")], tuple(letters), dict(letters), [None] * 5]:
                self.refused(self.with_dealing(at, ("other", thing, steps)), "letters", at, None)

    def test_a_letter_is_none(self):
        _, letters, steps = wide_book()[1][0]
        none = NO_PAIRS + [["a", "ka"], ("e",), ("e", "ka", "ka"), ("aa", "ka")]
        none += [(letter, "ka") for letter in NO_NAMES + NO_TEXTS]
        none += [("e", kind) for kind in NO_NAMES + NO_TEXTS + ["k", "kg", "none", True]]
        for at in (0, 5, 7):
            for place in range(4):
                for thing in none:
                    wrong = list(letters)
                    wrong[place] = thing
                    self.refused(self.with_dealing(at, ("other", wrong, steps)), "letters", at, place)

    def test_a_letter_stood_ahead(self):
        _, letters, steps = wide_book()[1][0]
        for at in (0, 7):
            for place in range(1, 4):
                for ahead in range(place):
                    for kind in ("ka", "kf"):
                        wrong = list(letters)
                        wrong[place] = (letters[ahead][0], kind)
                        self.refused(self.with_dealing(at, ("other", wrong, steps)), "letters", at, place)

    def test_steps_are_no_list_of_one_to_eight(self):
        _, letters, steps = wide_book()[1][0]
        for at in range(8):
            for thing in NO_LISTS + [[], steps + [("read", "a")], tuple(steps), [None] * 9]:
                self.refused(self.with_dealing(at, ("other", letters, thing)), "steps", at, None)

    def test_a_step_is_none(self):
        _, letters, steps = wide_book()[1][0]
        none = NO_PAIRS + [["read", "a"], ("read",), ("read", "a", "a"), ("a", "read")]
        none += [(deed, "a") for deed in NO_NAMES + NO_TEXTS + ["reads", "Read", "rea", "begin", "end", "drop", "read "]]
        none += [("read", letter) for letter in NO_NAMES + NO_TEXTS + ["e", "ab", "ka", "aa"]]
        for at in (0, 4, 7):
            for place in range(8):
                for thing in none:
                    wrong = list(steps)
                    wrong[place] = thing
                    self.refused(self.with_dealing(at, ("other", letters, wrong)), "steps", at, place)

    def test_a_letter_of_another_dealing_is_none_of_this_ones(self):
        kinds, dealings = small_book()
        dealings[1] = ("put", [("x", "row")], [("write", "x"), ("read", "a")])
        self.refused((kinds, dealings), "steps", 1, 1)

    def test_a_letter_stands_in_no_step(self):
        _, letters, _ = wide_book()[1][0]
        for at in (0, 3, 7):
            for place in range(4):
                steps = [("ask", letter) for letter, _ in letters if letter != letters[place][0]]
                self.refused(self.with_dealing(at, ("other", letters, steps)), "letters", at, place)

    def test_the_first_letter_in_no_step_is_told(self):
        self.refused(([("k", True)], [("d", [("c", "k"), ("b", "k"), ("a", "k")], [("read", "c")])]), "letters", 0, 1)

    def test_a_letter_in_no_step_is_told_behind_the_steps(self):
        letters = [("a", "ka"), ("b", "ka")]
        self.refused(self.with_dealing(2, ("other", letters, [("read", "b"), ("read", "c")])), "steps", 2, 1)
        self.refused(self.with_dealing(2, ("other", letters, [])), "steps", 2, None)
        self.refused(self.with_dealing(2, ("other", letters, [("read", "b")])), "letters", 2, 0)

    def test_of_two_faults_in_a_dealing_the_first_looked_at_is_told(self):
        self.refused(self.with_dealing(1, ("A", [], [])), "dealings", 1, None)
        self.refused(self.with_dealing(1, ("other", [], [])), "letters", 1, None)
        self.refused(self.with_dealing(1, ("other", [("A", "ka")], None)), "letters", 1, 0)
        self.refused(self.with_dealing(1, ("other", [("a", "ka"), ("a", "ka")], [None])), "letters", 1, 1)
        self.refused(self.with_dealing(1, ("other", [("a", "ka"), ("b", "k"), ("a", "ka")], [])), "letters", 1, 1)
        self.refused(self.with_dealing(1, ("other", [("a", "ka")], [None, Odd()])), "steps", 1, 0)

    def test_an_earlier_dealing_goes_ahead_of_a_later_one(self):
        kinds, dealings = wide_book()
        name, letters, steps = dealings[0]
        faults = [(None, ("dealings", None)), (("A", letters, steps), ("dealings", None)),
                  (("one", [], steps), ("letters", None)), (("one", [("a", "none")], steps), ("letters", 0)),
                  (("one", letters, []), ("steps", None)), (("one", letters, [("read", "z")]), ("steps", 0)),
                  (("one", letters, [("read", "a")]), ("letters", 1))]
        for ahead, (part, place) in faults:
            for behind, _ in faults:
                wrong = list(dealings)
                wrong[2] = ahead
                wrong[5] = behind
                self.refused((kinds, wrong), part, 2, place)

    def test_a_name_that_stands_behind_is_no_fault_of_the_one_ahead(self):
        kinds, dealings = small_book()
        dealings.append(("take", [], []))
        self.refused((kinds, dealings), "dealings", 2, None)

    def test_what_is_refused_stays_as_it_was(self):
        kinds, dealings = small_book()
        for thing in ((kinds, []), (kinds, dealings + [None]), (kinds + kinds, dealings), [kinds, dealings],
                      (kinds, [("d", [("a", "row"), ("b", "row")], [("read", "a")])])):
            with self.assertRaises(NoBook):
                unchanged(self, look_at_book, thing)

    def test_of_anything_at_any_place(self):
        # A text that is a name makes a book where a name is asked for.
        for thing in [thing for thing in odd_things() if not (isinstance(thing, str) and thing == "nosuchnm")]:
            kinds, dealings = small_book()
            name, letters, steps = dealings[0]
            for book in (thing, (thing, dealings), ([thing], dealings), ([(thing, True)], dealings), (kinds, thing),
                         (kinds, [thing]), (kinds, [(thing, letters, steps)]), (kinds, [("d", thing, steps)]),
                         (kinds, [("d", [thing], steps)]), (kinds, [("d", [(thing, "row")], steps)]),
                         (kinds, [("d", [("a", thing)], steps)]), (kinds, [("d", letters, thing)]),
                         (kinds, [("d", letters, [thing])]), (kinds, [("d", letters, [(thing, "a")])]),
                         (kinds, [("d", letters, [("read", thing)])])):
                self.assertRaises(NoBook, look_at_book, book)


class Dealings(unittest.TestCase):

    def test_told_is_the_dealing_in_the_book(self):
        for book in (small_book(), wide_book()):
            for dealing in book[1]:
                told = unchanged(self, dealing_by, book, dealing[0])
                self.assertEqual(told, dealing)
                self.assertIsInstance(told, tuple)

    def test_its_lists_are_new_ones(self):
        book = small_book()
        told = dealing_by(book, "take")
        self.assertIsNot(told[1], book[1][0][1])
        self.assertIsNot(told[2], book[1][0][2])
        self.assertIsNot(told[1], dealing_by(book, "take")[1])

    def test_a_change_of_its_lists_changes_nothing(self):
        book = small_book()
        told = dealing_by(book, "take")
        told[1].clear()
        told[2].append(("read", "z"))
        self.assertEqual(book, small_book())
        self.assertEqual(dealing_by(book, "take"), small_book()[1][0])

    def test_a_change_of_the_book_changes_nothing_that_was_told(self):
        book = small_book()
        told = dealing_by(book, "put")
        book[1][1][1].clear()
        book[1][1][2].clear()
        self.assertEqual(told, small_book()[1][1])

    def test_no_name_of_a_dealing(self):
        for at, thing in enumerate(odd_things() + ["row", "sum", "a", "x", "takes", "tak", 0, 1, ("take",), ["put"]]):
            with self.subTest(at), self.assertRaises(NoDealing) as caught:
                dealing_by(small_book(), thing)
            self.assertIsInstance(caught.exception, StepError)
            self.assertNotIsInstance(caught.exception, BookError)

    def test_refused_the_book_stays(self):
        with self.assertRaises(NoDealing):
            unchanged(self, dealing_by, small_book(), "none")

    def test_by_name(self):
        self.assertEqual(dealing_by(name="put", book=small_book()), small_book()[1][1])


class Many(unittest.TestCase):

    def test_has_many(self):
        book = small_book()
        self.assertIs(unchanged(self, has_many, book, "row"), True)
        self.assertIs(unchanged(self, has_many, book, "sum"), False)
        self.assertIs(has_many(kind="row", book=book), True)

    def test_of_each_kind(self):
        book = wide_book()
        self.assertEqual([has_many(book, name) for name, _ in book[0]], [True] * 3 + [False] * 3)

    def test_it_does_not_hang_on_what_was_asked_ahead(self):
        book = small_book()
        ahead = copy.deepcopy(book)
        has_many(book, "row")
        book[0][0] = ("row", False)
        self.assertIs(has_many(book, "row"), False)
        self.assertIs(has_many(ahead, "row"), True)


if __name__ == "__main__":
    unittest.main()
