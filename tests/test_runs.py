"""Runs (point 13) and the numbers of those that stand (point 14)."""

import unittest

from snapsure.errors import BookError, NoRun
from snapsure.runs import is_run, replayed, standing
from snapsure.stepper import Stepper
from tests.chance import called_otherwise, chance_runs, script
from tests.judge import Judge
from tests.samples import Alike, Odd, deal_book, no_run, no_runs, odd_things, refuses_no_runs, unchanged

GOOD = "move:k0,k1 put:k3 0. 1 1! 0. late:k3 0! 2 2x see:l0 3 3!"


def good():
    return script(deal_book(), GOOD)


def full_book():
    """A dealing of as many steps as may be."""
    return ([("k", True)], [("d", [("a", "k")], [("read", "a"), ("write", "a")] * 4)])


def one_behind_the_other(many):
    """So many dealings of the full book, with ten rows each."""
    return script(full_book(), " ".join(f"d:k{at} {at} {at}!" for at in range(many)))


class Runs(unittest.TestCase):

    def test_a_run(self):
        self.assertIs(unchanged(self, is_run, deal_book(), good()), True)

    def test_the_empty_run(self):
        self.assertIs(unchanged(self, is_run, deal_book(), []), True)
        self.assertEqual(replayed(deal_book(), []), [])
        self.assertEqual(standing(deal_book(), []), [])

    def test_one_that_is_only_dropped(self):
        self.assertIs(is_run(deal_book(), script(deal_book(), "get:k0 0x")), True)
        self.assertIs(is_run(deal_book(), script(deal_book(), "move:k0,k0 0. 0x")), True)
        self.assertIs(is_run(deal_book(), script(deal_book(), "get:k0 0 0x")), True)

    def test_ends_that_call_off_are_no_refusal(self):
        run = script(deal_book(), "put:k0 put:k0 0 1 1! 0!")
        self.assertIs(is_run(deal_book(), run), True)
        self.assertEqual(replayed(deal_book(), run)[-2:], [True, False])

    def test_as_many_rows_and_dealings_as_may_be(self):
        run = one_behind_the_other(40)
        self.assertEqual(len(run), 400)
        self.assertIs(is_run(full_book(), run), True)
        self.assertEqual(len(replayed(full_book(), run)), 400)
        self.assertEqual(standing(full_book(), run), list(range(40)))

    def test_one_row_more(self):
        for more in (("drop", 0), ("step", 40), None, Odd()):
            run = one_behind_the_other(40) + [more]
            self.assertIs(is_run(full_book(), run), False)
            no_run(self, None, replayed, full_book(), run)

    def test_one_dealing_more(self):
        run = script(full_book(), " ".join(f"d:k0 {at}x" for at in range(40)))
        self.assertIs(is_run(full_book(), run), True)
        no_run(self, 80, replayed, full_book(), run + [("begin", "d", [("k", 0)]), ("drop", 40)])

    def test_rows_of_a_stepper(self):
        stepper = Stepper(deal_book())
        told = [stepper.begin("move"), stepper.begin("late", [("k", 1)]), stepper.begin("mix"), stepper.begin("see")]
        for number in (3, 2, 0, 1, 2, 1, 0, 2, 1):
            told.append(stepper.step(number))
        told += [stepper.end(2), stepper.end(0), stepper.end(1), stepper.drop(3)]
        self.assertEqual(told[-4:], [True, True, False, None])
        self.assertIs(is_run(deal_book(), stepper.rows()), True)
        self.assertEqual(replayed(deal_book(), stepper.rows()), told)
        self.assertEqual(standing(deal_book(), stepper.rows()), [0, 2])

    def test_rows_of_a_stepper_by_which_some_are_open(self):
        stepper = Stepper(deal_book())
        stepper.begin("get")
        no_run(self, 1, replayed, deal_book(), stepper.rows())
        stepper.step(0)
        no_run(self, 2, replayed, deal_book(), stepper.rows())
        stepper.end(0)
        self.assertIs(is_run(deal_book(), stepper.rows()), True)

    def test_a_run_of_another_book(self):
        book = ([("k", True)], [("get", [("a", "k")], [("read", "a")])])
        self.assertIs(is_run(book, script(book, "get:k0 0 0!")), True)
        self.assertIs(is_run(book, script(deal_book(), "see:l0 0 0!")), False)

    def test_by_name(self):
        self.assertIs(is_run(thing=[], book=deal_book()), True)
        self.assertEqual(replayed(thing=[], book=deal_book()), [])
        self.assertEqual(standing(run=[], book=deal_book()), [])


class Replayed(unittest.TestCase):

    def told(self, text):
        return unchanged(self, replayed, deal_book(), script(deal_book(), text))

    def test_what_each_row_tells(self):
        self.assertEqual(self.told("move:k0,k1 put:k0 1 1! 0 get:k0 0! 2 2! late:k0 3. 3x add:k7 4 4!"),
                         [0, 1, ("write", ("k", 0), None), True, ("read", ("k", 0), None), ("write", ("k", 1), None),
                          2, True, ("read", ("k", 0), 1), True, 3, ("read", ("k", 0), 1), None,
                          4, ("ask", ("k", 7), None), True])

    def test_kinds_of_values(self):
        told = self.told("put:k0 put:k0 0 1 1! 0! get:k0 2x")
        self.assertEqual([type(value) for value in told],
                         [int, int, tuple, tuple, bool, bool, int, type(None)])
        self.assertIs(told[4], True)
        self.assertIs(told[5], False)
        self.assertIsNone(told[7])

    def test_reads_of_its_own_writes(self):
        self.assertEqual(self.told("get:k9 late:k0 1 1! 0x")[2:6],
                         [("read", ("k", 0), None), ("write", ("k", 0), None), ("read", ("k", 0), 1), True])

    def test_the_list_is_a_new_one(self):
        run = good()
        told = replayed(deal_book(), run)
        ahead = list(told)
        told.clear()
        self.assertEqual(replayed(deal_book(), run), ahead)
        self.assertEqual(run, good())

    def test_as_the_model_tells(self):
        for book, run in chance_runs(200):
            judge = Judge(book, run)
            self.assertIs(is_run(book, run), True)
            self.assertEqual(unchanged(self, replayed, book, run), judge.told, (book, run))
            self.assertEqual(unchanged(self, standing, book, run), judge.stand, (book, run))

    def test_called_otherwise(self):
        """Point 3 (g)."""
        for book, run in chance_runs(60):
            other, again, kinds = called_otherwise(book, run)
            told = [(value[0], (kinds[value[1][0]], value[1][1]), value[2]) if isinstance(value, tuple) else value
                    for value in replayed(book, run)]
            self.assertEqual(replayed(other, again), told)
            self.assertEqual(standing(other, again), standing(book, run))


class NoRuns(unittest.TestCase):

    def test_no_list_of_at_most_400_things(self):
        things = [thing for thing in odd_things() if not isinstance(thing, list)]
        for thing in things + [tuple(good()), (), {}, "begin", iter(good()), [None] * 401, good() * 40]:
            self.assertIs(is_run(deal_book(), thing), False)
            no_run(self, None, replayed, deal_book(), thing)
            no_run(self, None, standing, deal_book(), thing)

    def test_a_row_that_is_none_wherever_it_stands(self):
        rows = odd_things() + [
            ["step", 0], ["begin", "get", [("k", 0)]], "step", {"step": 0}, {"step", 0},
            ("begin",), ("begin", "get"), ("begin", "get", [("k", 0)], None), ("step",), ("step", 0, 0), ("step", 0, []),
            ("end", 0, []), ("drop", 0, []), ("begin", "get", [("k", 0)], []), ("end",),
            ("end", 0, None), ("drop",), ("drop", 0, 0), ("undo",), ("undo", 0), ("state", 0), ("ask", 0), ("", 0),
            ("Step", 0), ("step ", 0), (b"step", 0), (None, 0), (0, "step"), (["step"], 0), (Odd(), 0), (Alike(), 0),
            ("begin", 0), ("step", "get", [("k", 0)]), (Odd(), "get", [("k", 0)]), (Alike(), "get", [("k", 0)]),
        ]
        for row in rows:
            self.refused_wherever(row)

    def test_a_begin_with_a_name_or_keys_that_are_none(self):
        for name in odd_things() + ["none", "Get", "get ", "ge", ["get"]]:
            self.refused_wherever(("begin", name, [("k", 0)]))
        for keys in odd_things() + ["k", (("k", 0),), [("k", 0), ("k", 0)], [("k", -1)], [("k", True)], [("m", 0)],
                                    [["k", 0]], [("k",)], [("k", 0, 0)], [("none", 0)], [Odd()], {("k", 0): 0}]:
            self.refused_wherever(("begin", "get", keys))
        for keys in ([("k", 0)], [("l", 1)], [("l", False)], [("l", 0), ("l", 0)], None):
            self.refused_wherever(("begin", "see", keys))

    def test_a_number_that_is_none(self):
        for word in ("step", "end", "drop"):
            for number in odd_things() + [True, False, -1, 4, 10 ** 60, "0", [0], (0,)]:
                self.refused_wherever((word, number))

    def test_a_truth_is_no_number_though_it_is_one_of_an_open_one(self):
        ahead = script(deal_book(), "get:k0 get:k1 0 1")
        for row in (("end", True), ("drop", True), ("end", False), ("drop", False)):
            no_run(self, 4, replayed, deal_book(), ahead + [row, ("end", 0), ("end", 1)])
        for row in (("step", True), ("step", False)):
            no_run(self, 2, replayed, deal_book(), ahead[:2] + [row] + ahead[2:])

    def refused_wherever(self, row):
        for at in range(len(good()) + 1):
            run = good()[:at] + [row] + good()[at:]
            with self.subTest(at=at):
                self.assertIs(is_run(deal_book(), run), False)
                no_run(self, at, replayed, deal_book(), run)

    def test_the_first_is_told(self):
        run = good()
        no_run(self, 2, replayed, deal_book(), run[:2] + [("step", 9), Odd(), ("step", True)] + run[2:])
        no_run(self, 3, replayed, deal_book(), run[:3] + [Odd(), ("step", 9)])
        no_run(self, None, replayed, deal_book(), [Odd()] + [("step", 9)] * 400)

    def test_one_that_is_over(self):
        for close in ("0!", "0x"):
            ahead = script(deal_book(), f"get:k0 0 {close}")
            for word in ("step", "end", "drop"):
                no_run(self, 3, replayed, deal_book(), ahead + [(word, 0)])

    def test_one_that_is_not_begun_yet(self):
        no_run(self, 0, replayed, deal_book(), [("step", 0), ("begin", "get", [("k", 0)]), ("end", 0)])
        no_run(self, 1, replayed, deal_book(), script(deal_book(), "get:k0") + [("step", 1)])

    def test_a_step_too_many(self):
        no_run(self, 2, replayed, deal_book(), script(deal_book(), "get:k0 0. 0. 0!"))
        no_run(self, 4, replayed, deal_book(), script(deal_book(), "late:k0 0. 0. 0. 0. 0!"))

    def test_an_end_too_early(self):
        no_run(self, 1, replayed, deal_book(), script(deal_book(), "get:k0 0! 0"))
        no_run(self, 2, replayed, deal_book(), script(deal_book(), "move:k0,k0 0. 0! 0."))

    def test_an_end_too_late(self):
        no_run(self, 3, replayed, deal_book(), script(deal_book(), "get:k0 0 0! 0!"))
        no_run(self, 3, replayed, deal_book(), script(deal_book(), "get:k0 0 0x 0!"))
        no_run(self, 3, replayed, deal_book(), script(deal_book(), "get:k0 0 0! 0x"))

    def test_one_that_is_left_open(self):
        for text, rows in (("get:k0", 1), ("get:k0 0", 2), ("get:k0 get:k0 1 1!", 4), ("get:k0 get:k0 0 0!", 4)):
            run = script(deal_book(), text)
            self.assertIs(is_run(deal_book(), run), False)
            no_run(self, rows, replayed, deal_book(), run)

    def test_a_row_that_is_none_goes_ahead_of_an_open_one(self):
        no_run(self, 2, replayed, deal_book(), script(deal_book(), "get:k0 get:k0") + [("end", 2), ("drop", 1)])

    def test_all_of_them(self):
        for thing, _ in no_runs():
            self.assertIs(is_run(deal_book(), thing), False)
        refuses_no_runs(self, replayed)
        refuses_no_runs(self, standing)

    def test_norun_stands_under_book_error(self):
        self.assertTrue(issubclass(NoRun, BookError))

    def test_a_refusal_hides_what_it_came_of(self):
        with self.assertRaises(NoRun) as caught:
            replayed(deal_book(), [("step", 0)])
        self.assertIsNone(caught.exception.__cause__)


class Standing(unittest.TestCase):

    def stand(self, text):
        return unchanged(self, standing, deal_book(), script(deal_book(), text))

    def test_rising_in_whatever_order_they_end(self):
        self.assertEqual(self.stand("get:k0 get:k0 get:k0 2 2! 0 1 1! 0!"), [0, 1, 2])

    def test_without_those_that_are_off(self):
        self.assertEqual(self.stand("put:k0 put:k0 get:k0 0 1 1! 0! 2 2x get:k0 3 3!"), [1, 3])

    def test_none(self):
        self.assertEqual(self.stand("get:k0 put:k1 0x 1x"), [])

    def test_the_list_is_a_new_one(self):
        standing(deal_book(), good()).clear()
        self.assertEqual(standing(deal_book(), good()), [0, 1, 3])


if __name__ == "__main__":
    unittest.main()
