"""Keys, and the keys of a dealing (point 6)."""

import unittest

from snapsure.errors import NoDealing
from snapsure.keys import are_keys, is_key
from tests.samples import Alike, Odd, odd_things, small_book, unchanged, wide_book

NO_WHOLES = [True, False, None, "0", "", b"0", [], [0], (0,), {}, object(), Odd(), Alike(), -1, -10 ** 59, int]


class Keys(unittest.TestCase):

    def test_keys_of_a_kind_with_many(self):
        for number in (0, 1, 2, 39, 40, 10 ** 59, 10 ** 60 - 1):
            self.assertIs(unchanged(self, is_key, small_book(), ("row", number)), True)

    def test_the_key_of_a_kind_with_one(self):
        self.assertIs(is_key(small_book(), ("sum", 0)), True)
        for number in (1, 2, 10 ** 59, 10 ** 60 - 1):
            self.assertIs(is_key(small_book(), ("sum", number)), False)

    def test_no_numbers(self):
        for kind in ("row", "sum"):
            for at, number in enumerate(NO_WHOLES):
                self.assertIs(is_key(small_book(), (kind, number)), False, at)

    def test_no_kinds(self):
        for at, kind in enumerate(odd_things() + ["take", "put", "a", "rows", "ro", ("row",), ["row"], 0]):
            self.assertIs(is_key(small_book(), (kind, 0)), False, at)

    def test_the_name_of_a_kind_of_another_book(self):
        self.assertIs(is_key(wide_book(), ("row", 0)), False)
        self.assertIs(is_key(wide_book(), ("kf", 0)), True)

    def test_no_tuples_of_two(self):
        things = odd_things() + [["row", 0], ("row",), ("row", 0, 0), (0, "row"), "row", 0, {"row": 0}, ("row", 0, None)]
        for at, thing in enumerate(things):
            self.assertIs(is_key(small_book(), thing), False, at)

    def test_by_name(self):
        self.assertIs(is_key(thing=("row", 3), book=small_book()), True)


class KeysOfADealing(unittest.TestCase):

    def test_a_key_for_each_letter(self):
        for keys in ([("row", 0), ("row", 1), ("sum", 0)], [("row", 10 ** 59), ("row", 0), ("sum", 0)]):
            self.assertIs(unchanged(self, are_keys, small_book(), "take", keys), True)
        self.assertIs(are_keys(small_book(), "put", [("row", 7)]), True)

    def test_two_letters_may_stand_for_one(self):
        self.assertIs(are_keys(small_book(), "take", [("row", 4), ("row", 4), ("sum", 0)]), True)

    def test_too_few_and_too_many(self):
        for keys in ([], [("row", 0)], [("row", 0), ("row", 1)],
                     [("row", 0), ("row", 1), ("sum", 0), ("row", 2)], [("row", 0), ("row", 1), ("sum", 0)] * 2):
            self.assertIs(unchanged(self, are_keys, small_book(), "take", keys), False)
        self.assertIs(are_keys(small_book(), "put", []), False)
        self.assertIs(are_keys(small_book(), "put", [("row", 0), ("row", 0)]), False)

    def test_other_kinds(self):
        for keys in ([("sum", 0), ("row", 1), ("row", 0)], [("row", 0), ("sum", 0), ("row", 0)],
                     [("row", 0), ("row", 0), ("row", 0)], [("sum", 0), ("sum", 0), ("sum", 0)]):
            self.assertIs(unchanged(self, are_keys, small_book(), "take", keys), False)
        self.assertIs(are_keys(small_book(), "put", [("sum", 0)]), False)

    def test_a_key_is_none(self):
        for place in range(3):
            for at, thing in enumerate(odd_things()):
                keys = [("row", 0), ("row", 1), ("sum", 0)]
                keys[place] = thing
                self.assertIs(are_keys(small_book(), "take", keys), False, (place, at))

    def test_a_number_is_none(self):
        for place, kind in enumerate(("row", "row", "sum")):
            for at, number in enumerate(NO_WHOLES):
                keys = [("row", 0), ("row", 1), ("sum", 0)]
                keys[place] = (kind, number)
                self.assertIs(are_keys(small_book(), "take", keys), False, (place, at))
        self.assertIs(are_keys(small_book(), "take", [("row", 0), ("row", 1), ("sum", 1)]), False)

    def test_no_lists(self):
        keys = [("row", 0), ("row", 1), ("sum", 0)]
        for at, thing in enumerate(odd_things() + [tuple(keys), set(keys), dict(enumerate(keys)), iter(keys), "abc"]):
            self.assertIs(are_keys(small_book(), "take", thing), False, at)
        self.assertIs(are_keys(small_book(), "put", ("row", 0)), False)
        self.assertIs(are_keys(small_book(), "put", (("row", 0),)), False)

    def test_no_name_of_a_dealing(self):
        for at, name in enumerate(odd_things() + ["row", "sum", "a", "takes", 0]):
            for thing in (None, [], [("row", 0)], Odd()):
                with self.subTest(at):
                    self.assertRaises(NoDealing, are_keys, small_book(), name, thing)

    def test_whatever_the_thing_is_a_name_of_none_is_refused(self):
        for at, thing in enumerate(odd_things()):
            with self.subTest(at):
                self.assertRaises(NoDealing, are_keys, small_book(), "none", thing)
                self.assertRaises(NoDealing, are_keys, small_book(), thing, thing)

    def test_refused_what_was_handed_in_stays(self):
        with self.assertRaises(NoDealing):
            unchanged(self, are_keys, small_book(), "none", [("row", 0)])

    def test_by_name(self):
        self.assertIs(are_keys(thing=[("row", 7)], name="put", book=small_book()), True)


if __name__ == "__main__":
    unittest.main()
