"""Hooks (point 19; and of point 10 what stands beside what)."""

import unittest

from snapsure.errors import NoDealing
from snapsure.hooks import bites, first_hooks, further, hanging
from tests.chance import chance_books, hooks_called_otherwise
from tests.judge import BookJudge
from tests.samples import Alike, Odd, book_of, deal_book, odd_things, refused, unchanged

class HookTest(unittest.TestCase):

    def first_are(self, expected, book, name):
        self.assertEqual(unchanged(self, first_hooks, book, name), expected)

    def further_are(self, expected, book, name, hook):
        self.assertEqual(unchanged(self, further, book, name, hook), expected)

    def hanging_are(self, expected, book, name):
        self.assertEqual(unchanged(self, hanging, book, name), expected)

    def bite_is(self, expected, book, name, hook):
        self.assertIs(unchanged(self, bites, book, name, hook), expected)


class OneDealing(HookTest):
    """Books of one dealing: its hooks are places of others of its own likes."""

    def test_reads_the_one_and_writes_the_other(self):
        book = book_of(d="a:k b:k, read a, write b")
        self.first_are([("d", "b")], book, "d")
        self.further_are([("d", "a"), ("d", "b")], book, "d", ("d", "b"))
        self.hanging_are([("d", "a"), ("d", "b")], book, "d")
        self.bite_is(True, book, "d", ("d", "b"))
        self.bite_is(False, book, "d", ("d", "a"))

    def test_asks(self):
        book = book_of(d="a:k, ask a")
        self.first_are([], book, "d")
        self.hanging_are([], book, "d")
        self.further_are([("d", "a")], book, "d", ("d", "a"))
        self.bite_is(False, book, "d", ("d", "a"))

    def test_reads(self):
        book = book_of(d="a:k b:k, read a, read b")
        self.first_are([], book, "d")
        self.further_are([], book, "d", ("d", "a"))
        self.hanging_are([], book, "d")
        self.bite_is(False, book, "d", ("d", "a"))

    def test_reads_and_writes_one_key(self):
        book = book_of(d="a:k b:m, read a, write a, read b")
        self.first_are([], book, "d")
        self.hanging_are([], book, "d")
        self.further_are([("d", "a")], book, "d", ("d", "a"))
        self.further_are([("d", "a")], book, "d", ("d", "b"))
        self.bite_is(False, book, "d", ("d", "a"))

    def test_writes_a_key_there_is_one_of(self):
        book = book_of(d="a:l b:k c:k, write a, read b, write c")
        self.first_are([], book, "d")
        self.hanging_are([], book, "d")

    def test_reads_a_key_there_is_one_of(self):
        book = book_of(d="x:l b:k c:k, read x, read b, write c")
        self.first_are([("d", "c")], book, "d")
        self.hanging_are([("d", "b"), ("d", "c")], book, "d")

    def test_a_hook_is_told_by_the_first_letter_of_its_place(self):
        book = book_of(f="a:l, read a", g="z:l b:l, read z, write b")
        self.first_are([("g", "z")], book, "f")
        self.bite_is(False, book, "f", ("g", "z"))


class SeveralDealings(HookTest):

    def chain(self):
        """f reads k and writes p; w writes k and m; r reads m and p."""
        return book_of(f="a:k z:p, read a, write z", w="a:k b:m, write a, write b", r="c:m d:p, read c, read d")

    def test_first_hooks(self):
        self.first_are([("w", "a")], self.chain(), "f")
        self.first_are([], self.chain(), "w")
        self.first_are([("f", "z"), ("w", "b")], self.chain(), "r")

    def test_further(self):
        self.further_are([("f", "a"), ("r", "c"), ("w", "a"), ("w", "b")], self.chain(), "f", ("w", "a"))
        self.further_are([("f", "a"), ("r", "c"), ("w", "a"), ("w", "b")], self.chain(), "f", ("w", "b"))
        self.further_are([("f", "z"), ("w", "b")], self.chain(), "f", ("r", "c"))
        self.further_are([("f", "z"), ("r", "d"), ("w", "a")], self.chain(), "f", ("f", "a"))

    def test_hanging(self):
        every = [("f", "a"), ("f", "z"), ("r", "c"), ("r", "d"), ("w", "a"), ("w", "b")]
        self.hanging_are(every, self.chain(), "f")
        self.hanging_are([], self.chain(), "w")
        self.hanging_are(every, self.chain(), "r")

    def test_bites(self):
        self.bite_is(True, self.chain(), "f", ("r", "c"))
        self.bite_is(False, self.chain(), "f", ("r", "d"))
        self.bite_is(False, self.chain(), "f", ("w", "a"))
        self.bite_is(False, self.chain(), "f", ("f", "a"))
        self.bite_is(True, self.chain(), "w", ("r", "d"))
        self.bite_is(False, self.chain(), "w", ("r", "c"))

    def test_a_hook_that_hangs_only_by_another_hook(self):
        book = book_of(f="a:k, read a", w="a:k b:m, write a, write b", r="c:m, read c")
        self.first_are([("w", "a")], book, "f")
        self.hanging_are([("f", "a"), ("r", "c"), ("w", "a"), ("w", "b")], book, "f")

    def test_a_hook_that_hangs_only_by_one_that_hangs_by_another(self):
        book = book_of(f="a:k, read a", w="a:k b:m, write a, write b", v="c:m d:p, read c, write d", r="e:p, read e")
        self.hanging_are([("f", "a"), ("r", "e"), ("v", "c"), ("v", "d"), ("w", "a"), ("w", "b")], book, "f")

    def test_one_that_hangs_by_no_bare_place(self):
        book = book_of(f="a:k, ask a", g="a:k b:m, read a, read b", w="b:m, write b")
        self.first_are([], book, "f")
        self.hanging_are([], book, "f")

    def test_reads_alone_reach_only_what_writes(self):
        book = book_of(f="a:k, read a", g="a:k, read a", w="b:k, write b")
        self.first_are([("w", "b")], book, "f")
        self.further_are([("w", "b")], book, "f", ("g", "a"))
        self.hanging_are([("f", "a"), ("g", "a"), ("w", "b")], book, "f")

    def test_kinds_part_places(self):
        book = book_of(f="a:k, read a", g="a:m, write a", h="a:l, write a")
        self.first_are([], book, "f")
        self.further_are([("g", "a")], book, "f", ("g", "a"))
        self.further_are([("h", "a")], book, "f", ("h", "a"))

    def test_sorted_by_names_then_letters(self):
        book = book_of(z="a:k, write a", f="b:k, read b", aa="c:k b:k, write c, ask b", a="z:k, write z")
        self.first_are([("a", "z"), ("aa", "b"), ("aa", "c"), ("z", "a")], book, "f")
        self.hanging_are([("a", "z"), ("aa", "b"), ("aa", "c"), ("f", "b"), ("z", "a")], book, "f")

    def test_each_once(self):
        book = book_of(f="a:k b:k, read a, read b", g="a:k b:k, ask a, ask a, write b")
        self.first_are([("g", "a"), ("g", "b")], book, "f")
        self.further_are([("f", "a"), ("f", "b"), ("g", "a"), ("g", "b")], book, "f", ("g", "a"))


class LoneKeys(HookTest):
    """Kinds with one key: those that write one are not beside one another."""

    def book(self):
        """f and g write l, g and h write n; r writes neither."""
        return book_of(f="a:l b:k, ask a, read b", g="x:l y:n c:k, write x, write y, write c",
                       h="y:n c:k, write y, write c", r="x:l y:n c:k, read x, read y, write c")

    def test_only_what_is_beside_the_first_one_is_a_hook(self):
        self.first_are([("h", "c"), ("r", "c")], self.book(), "f")
        self.hanging_are([("h", "c"), ("h", "y"), ("r", "c"), ("r", "y")], self.book(), "f")

    def test_hooks_need_not_be_beside_one_another(self):
        book = book_of(f="a:k, read a", g="x:l c:k, write x, write c", h="x:l d:m, write x, write d")
        self.first_are([("g", "c")], book, "f")
        self.further_are([("f", "a"), ("g", "c"), ("g", "x"), ("h", "x")], book, "f", ("g", "c"))
        self.hanging_are([("f", "a"), ("g", "c"), ("g", "x"), ("h", "d"), ("h", "x")], book, "f")

    def test_beside_goes_by_the_first_one(self):
        self.further_are([("h", "c"), ("h", "y"), ("r", "c"), ("r", "y")], self.book(), "f", ("h", "y"))
        self.further_are([("r", "c")], self.book(), "g", ("r", "x"))
        self.hanging_are([], self.book(), "g")

    def test_bites_by_a_key_there_is_one_of(self):
        self.bite_is(True, self.book(), "f", ("r", "c"))
        self.bite_is(False, self.book(), "f", ("r", "x"))
        self.bite_is(True, self.book(), "f", ("r", "y"))
        self.bite_is(False, self.book(), "f", ("h", "c"))

    def test_all_letters_of_a_lone_kind_are_the_hooks_own_place(self):
        book = book_of(f="a:l b:k, write a, read b", r="x:l y:l c:k, read y, read x, write c")
        self.bite_is(False, book, "f", ("r", "x"))
        self.bite_is(True, book, "f", ("r", "c"))
        self.hanging_are([("r", "c")], book, "f")


class Further(HookTest):

    def book(self):
        return book_of(f="a:p, read a", g="a:k b:m, read a, write b", h="a:k, write a", i="c:m d:m, read c, read d")

    def test_of_a_hook_that_does_not_hang(self):
        self.hanging_are([], self.book(), "f")
        self.further_are([("g", "b"), ("h", "a"), ("i", "c"), ("i", "d")], self.book(), "f", ("g", "a"))
        self.further_are([("g", "b"), ("h", "a"), ("i", "c"), ("i", "d")], self.book(), "f", ("g", "b"))

    def test_the_handed_hook_itself_just_where_some_place_of_its_dealing_meets_its_own(self):
        self.further_are([("g", "a"), ("h", "a")], self.book(), "f", ("h", "a"))
        self.further_are([("g", "b")], self.book(), "f", ("i", "c"))
        book = book_of(f="a:p, read a", g="a:k b:k, read a, write b")
        self.further_are([("g", "a"), ("g", "b")], book, "f", ("g", "a"))


class Bites(HookTest):

    def test_by_a_bare_place_other_than_the_hooks_own(self):
        book = book_of(f="a:k, ask a", g="a:k b:k, read a, read b", h="a:k b:m, read a, read b")
        self.bite_is(True, book, "f", ("g", "a"))
        self.bite_is(True, book, "f", ("g", "b"))
        self.bite_is(False, book, "f", ("h", "a"))
        self.bite_is(True, book, "f", ("h", "b"))

    def test_by_no_place_that_writes(self):
        book = book_of(f="a:k b:m, write a, read b", g="a:k b:m, ask a, write b", h="a:k b:m, read a, write a, write b")
        for hook in (("g", "a"), ("g", "b"), ("h", "a"), ("h", "b")):
            self.bite_is(False, book, "f", hook)

    def test_by_no_place_that_meets_none_of_the_first_one(self):
        book = book_of(f="a:k b:m, read a, write b", g="a:k b:p c:k, read a, read b, write c")
        self.bite_is(False, book, "f", ("g", "c"))
        self.bite_is(False, book, "f", ("g", "b"))

    def test_of_a_hook_that_does_not_hang(self):
        book = book_of(f="a:k, write a", g="a:k b:m, read a, read b")
        self.hanging_are([], book, "f")
        self.bite_is(True, book, "f", ("g", "b"))


class Handed(unittest.TestCase):

    def test_a_name_of_none(self):
        hook = ("get", "a")
        for name in odd_things() + [Odd(), Alike(), "none", "Get", "get ", "", ["get"], ("get", "a"), 0]:
            refused(self, NoDealing, first_hooks, deal_book(), name)
            refused(self, NoDealing, further, deal_book(), name, hook)
            refused(self, NoDealing, bites, deal_book(), name, hook)
            refused(self, NoDealing, hanging, deal_book(), name)

    def test_a_name_of_none_beside_a_hook_that_is_none(self):
        for hook in (None, (), ("none", "a"), Odd()):
            refused(self, NoDealing, further, deal_book(), "none", hook)
            refused(self, NoDealing, bites, deal_book(), "none", hook)

    def test_by_name(self):
        book = book_of(d="a:k b:k, read a, write b")
        self.assertEqual(first_hooks(name="d", book=book), [("d", "b")])
        self.assertEqual(further(hook=("d", "b"), name="d", book=book), [("d", "a"), ("d", "b")])
        self.assertIs(bites(hook=("d", "b"), name="d", book=book), True)
        self.assertEqual(hanging(name="d", book=book), [("d", "a"), ("d", "b")])

    def test_lists_are_new_ones(self):
        book = book_of(d="a:k b:k, read a, write b")
        for call, handed in ((first_hooks, ("d",)), (further, ("d", ("d", "b"))), (hanging, ("d",))):
            told = call(book, *handed)
            ahead = list(told)
            told.append(("d", "z"))
            told.reverse()
            self.assertEqual(call(book, *handed), ahead)


class AsTheJudgeTells(HookTest):

    def test_books_by_chance(self):
        found = 0
        for book in chance_books(200):
            judge = BookJudge(book)
            for name in judge.names:
                self.first_are(judge.first_hooks(name), book, name)
                self.hanging_are(judge.hanging(name), book, name)
                found += judge.hanging(name) != judge.first_hooks(name)
                for hook in judge.all_hooks(name):
                    self.assertEqual(further(book, name, hook), judge.further(name, hook))
                    self.assertIs(bites(book, name, hook), judge.bites(name, hook))
        self.assertGreater(found, 50)

    def test_called_otherwise(self):
        """Point 3 (g)."""
        for book in chance_books(60):
            other, names, called = hooks_called_otherwise(book)
            for name in names:
                self.assertEqual(first_hooks(other, names[name]), sorted(map(called, first_hooks(book, name))))
                self.assertEqual(hanging(other, names[name]), sorted(map(called, hanging(book, name))))
                for hook in BookJudge(book).all_hooks(name):
                    self.assertEqual(further(other, names[name], called(hook)),
                                     sorted(map(called, further(book, name, hook))))
                    self.assertEqual(bites(other, names[name], called(hook)), bites(book, name, hook))


if __name__ == "__main__":
    unittest.main()
