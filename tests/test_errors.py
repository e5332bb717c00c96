"""The refusals and what stands above each."""

import copy
import pickle
import unittest

from snapsure import errors
from snapsure.errors import BookError, SnapError, StepError

WITH_VALUES = {
    "NoBook": ("part", "at", "place"),
    "NoText": ("row",),
    "NoNames": ("which",),
    "NoRun": ("row",),
    "NoSome": ("at",),
}
UNDER_BOOK = list(WITH_VALUES) + ["NoKeys", "NoPart", "NoOrder", "NoPicks", "NoWeaving", "NoKey"]
UNDER_STEP = ["NoDealing", "NoNumber", "Over", "NoStep", "NoEnd", "NoDeed", "TooMany", "NoRow", "NoName"]


class Families(unittest.TestCase):

    def test_the_three_above(self):
        self.assertEqual(SnapError.__bases__, (Exception,))
        self.assertEqual(BookError.__bases__, (SnapError,))
        self.assertEqual(StepError.__bases__, (SnapError,))

    def test_each_stands_under_its_base_and_no_other(self):
        for base, names in ((BookError, UNDER_BOOK), (StepError, UNDER_STEP)):
            for name in names:
                with self.subTest(name):
                    refusal = getattr(errors, name)
                    self.assertEqual(refusal.__mro__, (refusal, base, SnapError, Exception, BaseException, object))

    def test_all_are_defined_here(self):
        for name in UNDER_BOOK + UNDER_STEP + ["SnapError", "BookError", "StepError"]:
            self.assertEqual(getattr(errors, name).__module__, "snapsure.errors")

    def test_there_are_no_others(self):
        found = {name for name, thing in vars(errors).items() if isinstance(thing, type)}
        self.assertEqual(found, set(UNDER_BOOK + UNDER_STEP + ["SnapError", "BookError", "StepError"]))


class Values(unittest.TestCase):

    def test_values_are_kept_by_place(self):
        for name, words in WITH_VALUES.items():
            values = tuple(range(3, 3 + len(words)))
            with self.subTest(name):
                refusal = getattr(errors, name)(*values)
                self.assertEqual(tuple(getattr(refusal, word) for word in words), values)

    def test_values_are_kept_by_name(self):
        for name, words in WITH_VALUES.items():
            told = {word: at + 5 for at, word in enumerate(words)}
            with self.subTest(name):
                refusal = getattr(errors, name)(**told)
                self.assertEqual({word: getattr(refusal, word) for word in words}, told)

    def test_values_of_none(self):
        refusal = errors.NoBook(None, None, None)
        self.assertEqual((refusal.part, refusal.at, refusal.place), (None, None, None))
        self.assertIsNone(errors.NoRun(None).row)
        self.assertIsNone(errors.NoSome(None).at)

    def test_values_are_asked_for(self):
        for name in WITH_VALUES:
            with self.subTest(name), self.assertRaises(TypeError):
                getattr(errors, name)()

    def test_the_others_are_made_of_a_text(self):
        for name in UNDER_BOOK + UNDER_STEP:
            if name not in WITH_VALUES:
                with self.subTest(name):
                    self.assertEqual(str(getattr(errors, name)("some text")), "some text")

    def test_a_copy_has_the_same_values(self):
        refusal = errors.NoBook("letters", 1, 2)
        for again in (copy.copy(refusal), pickle.loads(pickle.dumps(refusal))):
            self.assertEqual((again.part, again.at, again.place), ("letters", 1, 2))


if __name__ == "__main__":
    unittest.main()
