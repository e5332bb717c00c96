"""The stepper (points 11 and 12, and the rows of point 13)."""

import copy
import random
import unittest

from snapsure import errors
from snapsure.errors import (BookError, NoDealing, NoDeed, NoEnd, NoKey, NoKeys, NoNumber, NoStep, Over, StepError,
                             TooMany)
from snapsure.naming import chosen, renamed
from snapsure.stepper import Stepper
from tests.model import Model
from tests.samples import Alike, Odd, odd_things, small_book, unchanged, wide_book


def book():
    """Dealings of few steps over keys of kind k (many) and l (one)."""
    return (
        [("k", True), ("l", False)],
        [
            ("reads", [("a", "k")], [("read", "a"), ("read", "a")]),
            ("writes", [("a", "k")], [("write", "a")]),
            ("asks", [("a", "k")], [("ask", "a")]),
            ("both", [("a", "k"), ("b", "k")], [("read", "a"), ("write", "b"), ("read", "a"), ("read", "b")]),
            ("lone", [("x", "l"), ("y", "l")], [("read", "x"), ("write", "y"), ("read", "x")]),
            ("mixed", [("a", "k"), ("x", "l"), ("b", "k")], [("read", "a"), ("read", "x"), ("write", "b")]),
            ("again", [("a", "k")], [("ask", "a"), ("ask", "a"), ("read", "a")]),
        ],
    )


def all_done(stepper, name, keys=None):
    """Begin a dealing and do all its steps: its number and what they told."""
    number = stepper.begin(name, keys)
    return number, [stepper.step(number) for _ in range(stepper.left(number))]


def ended(stepper, name, keys=None):
    """Begin a dealing, do all its steps and end it: its number."""
    number, _ = all_done(stepper, name, keys)
    stepper.end(number)
    return number


def all_told(stepper, keys=(("k", 0), ("k", 1), ("k", 2), ("l", 0))):
    """All that a stepper tells of itself."""
    numbers = range(len(stepper))
    states = [stepper.state(number) for number in numbers]
    return (
        len(stepper), str(stepper), states, stepper.rows(),
        [stepper.left(number) for number in numbers if states[number] == "open"],
        [stepper.writer(key) for key in keys],
    )


class StepperTest(unittest.TestCase):

    def refused(self, stepper, refusal, call, *args):
        """The call is refused so, and all that the stepper tells is as ahead."""
        ahead = all_told(stepper)
        with self.assertRaises(errors.SnapError) as caught:
            call(*args)
        self.assertIs(type(caught.exception), refusal)
        self.assertEqual(all_told(stepper), ahead)


class Begins(StepperTest):

    def test_numbers_stand_in_the_order_of_beginnings(self):
        stepper = Stepper(book())
        self.assertEqual([stepper.begin(name) for name in ("reads", "lone", "reads", "asks")], [0, 1, 2, 3])
        self.assertEqual(len(stepper), 4)
        stepper.drop(3)
        self.assertEqual(stepper.begin("reads"), 4)

    def test_keys_that_are_handed_in(self):
        stepper = Stepper(book())
        keys = [("k", 7), ("k", 3)]
        self.assertEqual(unchanged(self, stepper.begin, "both", keys), 0)
        self.assertEqual([stepper.step(0)[1] for _ in range(4)], [("k", 7), ("k", 3), ("k", 7), ("k", 3)])

    def test_keys_of_sixty_figures(self):
        stepper = Stepper(book())
        stepper.begin("reads", [("k", 10 ** 59)])
        self.assertEqual(stepper.step(0), ("read", ("k", 10 ** 59), None))
        stepper.begin("reads")
        self.assertEqual(stepper.rows()[-1], ("begin", "reads", [("k", 10 ** 59 + 1)]))

    def test_by_name(self):
        stepper = Stepper(book=book())
        self.assertEqual(stepper.begin(keys=[("k", 4)], name="reads"), 0)
        self.assertEqual(stepper.step(number=0), ("read", ("k", 4), None))
        self.assertEqual(stepper.left(number=0), 1)
        stepper.step(0)
        self.assertIs(stepper.end(number=0), True)
        self.assertEqual(stepper.state(number=0), "stands")
        stepper.begin(name="asks")
        self.assertIsNone(stepper.drop(number=1))
        self.assertIsNone(stepper.writer(key=("k", 4)))

    def test_none_by_place_and_by_name(self):
        for begin in (lambda s: s.begin("both"), lambda s: s.begin("both", None), lambda s: s.begin("both", keys=None),
                      lambda s: s.begin(name="both", keys=None)):
            stepper = Stepper(book())
            stepper.begin("reads", [("k", 2)])
            begin(stepper)
            self.assertEqual(stepper.rows()[-1], ("begin", "both", [("k", 3), ("k", 4)]))

    def test_no_dealing(self):
        stepper = Stepper(book())
        for thing in odd_things() + ["k", "l", "a", "read", 0]:
            self.refused(stepper, NoDealing, stepper.begin, thing)
            self.refused(stepper, NoDealing, stepper.begin, thing, [("k", 0)])

    def test_no_keys(self):
        stepper = Stepper(book())
        wrong = [[], [("k", 0)], [("k", 0)] * 3, [("k", 0), ("l", 0)], [("k", 0), ("k", -1)], [("k", True), ("k", 0)],
                 [("k", 0), ("k", False)], (("k", 0), ("k", 1)), [["k", 0], ("k", 1)], [("k", 0), None], "ab",
                 [("k", 0), ("k", "1")], False, 0, {("k", 0): 1, ("k", 1): 2}, iter([("k", 0), ("k", 1)])]
        for thing in wrong + [thing for thing in odd_things() if thing is not None]:
            self.refused(stepper, NoKeys, stepper.begin, "both", thing)
        self.refused(stepper, NoKeys, stepper.begin, "lone", [("l", 0), ("l", 1)])
        with self.assertRaises(NoKeys):
            unchanged(self, stepper.begin, "both", [("k", 0)])

    def test_forty_may_be_begun(self):
        stepper = Stepper(book())
        for number in range(40):
            self.assertEqual(stepper.begin("reads"), number)
        self.refused(stepper, TooMany, stepper.begin, "reads")
        self.refused(stepper, TooMany, stepper.begin, "reads", [("k", 0)])
        stepper.undo()
        self.assertEqual(stepper.begin("asks"), 39)
        stepper.drop(39)
        self.refused(stepper, TooMany, stepper.begin, "reads")

    def test_of_two_refusals_the_first_told_goes_first(self):
        stepper = Stepper(book())
        self.refused(stepper, NoDealing, stepper.begin, "none", [])
        for _ in range(40):
            stepper.begin("reads")
        self.refused(stepper, NoDealing, stepper.begin, "none", [])
        self.refused(stepper, NoDealing, stepper.begin, "none")
        self.refused(stepper, NoKeys, stepper.begin, "reads", [])
        self.refused(stepper, NoKeys, stepper.begin, "reads", Odd())

    def test_refusals_stand_under_their_bases(self):
        for refusal, base in ((NoKeys, BookError), (NoKey, BookError), (NoDealing, StepError), (TooMany, StepError),
                              (NoNumber, StepError), (Over, StepError), (NoStep, StepError), (NoEnd, StepError),
                              (NoDeed, StepError)):
            self.assertTrue(issubclass(refusal, base))


class FreshKeys(StepperTest):

    def fresh(self, stepper, name):
        """The fresh keys of a dealing, which is begun."""
        stepper.begin(name)
        return stepper.rows()[-1][2]

    def test_from_nought_on(self):
        stepper = Stepper(book())
        self.assertEqual(self.fresh(stepper, "both"), [("k", 0), ("k", 1)])
        self.assertEqual(self.fresh(stepper, "reads"), [("k", 2)])
        self.assertEqual(self.fresh(stepper, "both"), [("k", 3), ("k", 4)])

    def test_of_a_kind_with_one_key(self):
        stepper = Stepper(book())
        self.assertEqual(self.fresh(stepper, "lone"), [("l", 0), ("l", 0)])
        self.assertEqual(self.fresh(stepper, "lone"), [("l", 0), ("l", 0)])
        self.assertEqual(self.fresh(stepper, "mixed"), [("k", 0), ("l", 0), ("k", 1)])
        self.assertEqual(self.fresh(stepper, "mixed"), [("k", 2), ("l", 0), ("k", 3)])

    def test_behind_keys_that_were_handed_in(self):
        stepper = Stepper(book())
        stepper.begin("both", [("k", 9), ("k", 4)])
        self.assertEqual(self.fresh(stepper, "both"), [("k", 10), ("k", 11)])
        stepper.begin("reads", [("k", 3)])
        self.assertEqual(self.fresh(stepper, "reads"), [("k", 12)])

    def test_behind_dropped_and_ended_ones(self):
        stepper = Stepper(book())
        stepper.begin("reads", [("k", 5)])
        stepper.drop(0)
        self.assertEqual(self.fresh(stepper, "reads"), [("k", 6)])
        ended(stepper, "writes", [("k", 20)])
        self.assertEqual(self.fresh(stepper, "reads"), [("k", 21)])

    def test_behind_undone_ones(self):
        stepper = Stepper(book())
        stepper.begin("reads", [("k", 2)])
        stepper.begin("reads", [("k", 5)])
        stepper.undo()
        self.assertEqual(self.fresh(stepper, "both"), [("k", 3), ("k", 4)])
        stepper.undo()
        stepper.undo()
        self.assertEqual(self.fresh(stepper, "both"), [("k", 0), ("k", 1)])

    def test_behind_a_refused_beginning(self):
        stepper = Stepper(book())
        self.assertRaises(NoKeys, stepper.begin, "both", [("k", 8), ("k", -1)])
        self.assertEqual(self.fresh(stepper, "reads"), [("k", 0)])

    def test_each_kind_is_counted_by_itself(self):
        kinds = [("k", True), ("m", True)]
        stepper = Stepper((kinds, [("d", [("a", "k"), ("b", "m"), ("c", "k")],
                                    [("read", "a"), ("read", "b"), ("read", "c")])]))
        stepper.begin("d", [("k", 3), ("m", 8), ("k", 1)])
        self.assertEqual(self.fresh(stepper, "d"), [("k", 4), ("m", 9), ("k", 5)])


class Seen(StepperTest):

    def test_steps_stand_in_their_order(self):
        stepper = Stepper(book())
        stepper.begin("mixed", [("k", 3), ("l", 0), ("k", 5)])
        self.assertEqual([stepper.left(0)] + [value for _ in range(3) for value in (stepper.step(0), stepper.left(0))],
                         [3, ("read", ("k", 3), None), 2, ("read", ("l", 0), None), 1, ("write", ("k", 5), None), 0])

    def test_none_where_there_is_none(self):
        stepper = Stepper(book())
        self.assertEqual(all_done(stepper, "reads")[1], [("read", ("k", 0), None)] * 2)
        self.assertEqual(all_done(stepper, "asks")[1], [("ask", ("k", 1), None)])

    def test_what_it_wrote_itself(self):
        stepper = Stepper(book())
        self.assertEqual(all_done(stepper, "lone")[1],
                         [("read", ("l", 0), None), ("write", ("l", 0), None), ("read", ("l", 0), 0)])
        number, told = all_done(stepper, "again", [("k", 0)])
        self.assertEqual(told, [("ask", ("k", 0), None), ("ask", ("k", 0), number), ("read", ("k", 0), number)])

    def test_what_it_wrote_itself_goes_ahead_of_what_another_one_wrote(self):
        stepper = Stepper(book())
        self.assertEqual(ended(stepper, "lone"), 0)
        self.assertEqual(all_done(stepper, "lone")[1],
                         [("read", ("l", 0), 0), ("write", ("l", 0), None), ("read", ("l", 0), 1)])

    def test_two_letters_that_stand_for_one_key(self):
        stepper = Stepper(book())
        self.assertEqual(all_done(stepper, "both", [("k", 4), ("k", 4)])[1],
                         [("read", ("k", 4), None), ("write", ("k", 4), None), ("read", ("k", 4), 0), ("read", ("k", 4), 0)])

    def test_two_letters_that_stand_for_two_keys(self):
        stepper = Stepper(book())
        self.assertEqual(all_done(stepper, "both", [("k", 4), ("k", 5)])[1],
                         [("read", ("k", 4), None), ("write", ("k", 5), None), ("read", ("k", 4), None),
                          ("read", ("k", 5), 0)])

    def test_one_that_ended_ahead_of_the_begin(self):
        for name in ("writes", "asks"):
            stepper = Stepper(book())
            ended(stepper, name, [("k", 1)])
            self.assertEqual(all_done(stepper, "reads", [("k", 1)])[1], [("read", ("k", 1), 0)] * 2)
            self.assertEqual(all_done(stepper, "asks", [("k", 1)])[1], [("ask", ("k", 1), 0)])
            self.assertEqual(all_done(stepper, "reads", [("k", 2)])[1], [("read", ("k", 2), None)] * 2)

    def test_a_reader_is_not_seen(self):
        stepper = Stepper(book())
        ended(stepper, "writes", [("k", 1)])
        ended(stepper, "reads", [("k", 1)])
        ended(stepper, "both", [("k", 1), ("k", 2)])
        self.assertEqual(all_done(stepper, "reads", [("k", 1)])[1], [("read", ("k", 1), 0)] * 2)

    def test_the_one_that_ended_last(self):
        stepper = Stepper(book())
        for keys in ([("k", 1)], [("k", 2)], [("k", 1)]):
            ended(stepper, "writes", keys)
        self.assertEqual(all_done(stepper, "both", [("k", 1), ("k", 2)])[1][0], ("read", ("k", 1), 2))
        self.assertEqual(all_done(stepper, "both", [("k", 2), ("k", 1)])[1][0], ("read", ("k", 2), 1))

    def test_one_that_began_first_and_ended_last(self):
        stepper = Stepper(book())
        stepper.begin("both", [("k", 0), ("k", 1)])
        ended(stepper, "both", [("k", 0), ("k", 2)])
        for _ in range(4):
            stepper.step(0)
        stepper.end(0)
        self.assertEqual([stepper.writer(("k", at)) for at in range(3)], [None, 0, 1])
        self.assertEqual(all_done(stepper, "reads", [("k", 1)])[1][0][2], 0)

    def test_one_that_ended_behind_the_begin(self):
        stepper = Stepper(book())
        stepper.begin("reads", [("k", 1)])
        self.assertEqual(stepper.step(0)[2], None)
        ended(stepper, "writes", [("k", 1)])
        self.assertEqual(stepper.step(0)[2], None)
        self.assertEqual(all_done(stepper, "reads", [("k", 1)])[1][0][2], 1)

    def test_one_that_began_ahead_and_ended_behind_the_begin(self):
        stepper = Stepper(book())
        ended(stepper, "writes", [("k", 1)])
        all_done(stepper, "writes", [("k", 1)])
        stepper.begin("reads", [("k", 1)])
        stepper.end(1)
        self.assertEqual([stepper.step(2)[2], stepper.step(2)[2]], [0, 0])

    def test_one_that_is_still_going(self):
        stepper = Stepper(book())
        all_done(stepper, "writes", [("k", 1)])
        self.assertEqual(all_done(stepper, "reads", [("k", 1)])[1][0][2], None)

    def test_one_that_was_called_off(self):
        stepper = Stepper(book())
        all_done(stepper, "asks", [("k", 1)])
        ended(stepper, "writes", [("k", 1)])
        self.assertIs(stepper.end(0), False)
        self.assertEqual(all_done(stepper, "reads", [("k", 1)])[1][0][2], 1)

    def test_one_that_was_dropped(self):
        stepper = Stepper(book())
        all_done(stepper, "writes", [("k", 1)])
        stepper.drop(0)
        self.assertEqual(all_done(stepper, "reads", [("k", 1)])[1][0][2], None)

    def test_a_write_has_seen_none(self):
        stepper = Stepper(book())
        ended(stepper, "writes", [("k", 1)])
        self.assertEqual(all_done(stepper, "writes", [("k", 1)])[1], [("write", ("k", 1), None)])


class Ends(StepperTest):

    def overlapping(self, first, first_keys, second, second_keys):
        """Both begin, both do all, the first one ends, then the second one: whether each stands."""
        stepper = Stepper(book())
        for name, keys in ((first, first_keys), (second, second_keys)):
            stepper.begin(name, keys)
        for number in (0, 1):
            while stepper.left(number):
                stepper.step(number)
        told = [stepper.end(0), stepper.end(1)]
        self.assertEqual([stepper.state(0) == "stands", stepper.state(1) == "stands"], told)
        return told

    def test_of_two_that_overlap_and_write_one_key_the_later_to_end_is_called_off(self):
        one, other = [("k", 1)], [("k", 2)]
        self.assertEqual(self.overlapping("writes", one, "writes", one), [True, False])
        self.assertEqual(self.overlapping("writes", one, "writes", other), [True, True])
        self.assertEqual(self.overlapping("lone", None, "lone", None), [True, False])
        self.assertEqual(self.overlapping("lone", None, "writes", [("k", 0)]), [True, True])

    def test_an_ask_counts_as_a_writing(self):
        one = [("k", 1)]
        self.assertEqual(self.overlapping("asks", one, "asks", one), [True, False])
        self.assertEqual(self.overlapping("asks", one, "writes", one), [True, False])
        self.assertEqual(self.overlapping("writes", one, "asks", one), [True, False])
        self.assertEqual(self.overlapping("asks", one, "reads", one), [True, True])

    def test_reads_call_nobody_off(self):
        one = [("k", 1)]
        self.assertEqual(self.overlapping("reads", one, "writes", one), [True, True])
        self.assertEqual(self.overlapping("writes", one, "reads", one), [True, True])
        self.assertEqual(self.overlapping("both", [("k", 1), ("k", 2)], "both", [("k", 2), ("k", 1)]), [True, True])
        self.assertEqual(self.overlapping("mixed", None, "lone", None), [True, True])

    def test_one_key_of_several_is_enough(self):
        self.assertEqual(self.overlapping("both", [("k", 1), ("k", 2)], "both", [("k", 9), ("k", 2)]), [True, False])
        self.assertEqual(self.overlapping("both", [("k", 2), ("k", 2)], "writes", [("k", 2)]), [True, False])

    def test_the_same_number_of_another_kind_is_another_key(self):
        kinds = [("k", True), ("m", True)]
        stepper = Stepper((kinds, [("d", [("a", "k")], [("write", "a")]), ("e", [("a", "m")], [("write", "a")])]))
        for name in ("d", "e"):
            stepper.step(stepper.begin(name))
        self.assertEqual([stepper.end(0), stepper.end(1)], [True, True])

    def test_who_began_ahead_does_not_matter(self):
        stepper = Stepper(book())
        all_done(stepper, "writes", [("k", 1)])
        self.assertEqual(ended(stepper, "writes", [("k", 1)]), 1)
        self.assertIs(stepper.end(0), False)
        self.assertEqual(str(stepper), "off stands")

    def test_one_that_ended_ahead_of_the_begin_calls_nobody_off(self):
        stepper = Stepper(book())
        for _ in range(3):
            ended(stepper, "writes", [("k", 1)])
        self.assertEqual(str(stepper), "stands stands stands")

    def test_one_that_is_open_calls_nobody_off(self):
        stepper = Stepper(book())
        all_done(stepper, "writes", [("k", 1)])
        all_done(stepper, "writes", [("k", 1)])
        self.assertIs(stepper.end(1), True)

    def test_one_that_was_dropped_calls_nobody_off(self):
        stepper = Stepper(book())
        all_done(stepper, "writes", [("k", 1)])
        all_done(stepper, "writes", [("k", 1)])
        stepper.drop(0)
        self.assertIs(stepper.end(1), True)

    def test_one_that_was_called_off_calls_nobody_off(self):
        stepper = Stepper(book())
        all_done(stepper, "both", [("k", 9), ("k", 1)])
        ended(stepper, "writes", [("k", 1)])
        # Number 2 begins behind the end of number 1; number 0 is called off while number 2 goes.
        all_done(stepper, "writes", [("k", 1)])
        self.assertIs(stepper.end(0), False)
        self.assertIs(stepper.end(2), True)

    def test_any_that_ended_since_the_begin(self):
        stepper = Stepper(book())
        all_done(stepper, "writes", [("k", 1)])
        ended(stepper, "writes", [("k", 1)])
        for _ in range(3):
            ended(stepper, "writes", [("k", 2)])
        self.assertIs(stepper.end(0), False)

    def test_dropped_with_steps_left_and_with_none(self):
        for many in range(5):
            stepper = Stepper(book())
            stepper.begin("both")
            for _ in range(many):
                stepper.step(0)
            self.assertIsNone(stepper.drop(0))
            self.assertEqual(stepper.state(0), "off")
            self.assertEqual(stepper.rows()[-1], ("drop", 0))


class Refusals(StepperTest):

    def busy(self):
        """Numbers 0 stands, 1 off by its end, 2 dropped, 3 open with steps left, 4 open with none."""
        stepper = Stepper(book())
        stepper.begin("writes", [("k", 1)])
        all_done(stepper, "writes", [("k", 1)])
        stepper.step(0)
        stepper.end(0)
        stepper.end(1)
        stepper.begin("lone")
        stepper.drop(2)
        stepper.begin("both", [("k", 1), ("k", 2)])
        stepper.step(3)
        all_done(stepper, "writes", [("k", 2)])
        self.assertEqual(str(stepper), "stands off off open open")
        return stepper

    def test_no_number(self):
        for stepper in (Stepper(book()), self.busy()):
            things = [thing for thing in odd_things()] + [len(stepper), len(stepper) + 1, 10 ** 59, -1, -2, -5, "0", [0], (0,)]
            for call in (stepper.step, stepper.end, stepper.drop, stepper.state, stepper.left):
                for thing in things + [True, False, None]:
                    self.refused(stepper, NoNumber, call, thing)

    def test_the_number_of_an_undone_one(self):
        stepper = self.busy()
        stepper.undo()
        stepper.undo()
        for call in (stepper.step, stepper.end, stepper.drop, stepper.state, stepper.left):
            self.refused(stepper, NoNumber, call, 4)

    def test_over(self):
        stepper = self.busy()
        for number in (0, 1, 2):
            for call in (stepper.step, stepper.end, stepper.drop, stepper.left):
                self.refused(stepper, Over, call, number)

    def test_over_goes_ahead_of_no_step_and_no_end(self):
        stepper = self.busy()
        self.refused(stepper, Over, stepper.step, 0)
        self.refused(stepper, Over, stepper.end, 2)

    def test_no_step(self):
        stepper = self.busy()
        self.refused(stepper, NoStep, stepper.step, 4)

    def test_no_end(self):
        stepper = self.busy()
        self.refused(stepper, NoEnd, stepper.end, 3)
        stepper.begin("writes")
        self.refused(stepper, NoEnd, stepper.end, 5)

    def test_no_key(self):
        stepper = self.busy()
        for thing in odd_things() + [("k", -1), ("k", True), ("l", False), ("l", 1), ["k", 0], ("k",), ("k", 0, 0),
                                     ("none", 0), ("a", 0), "k", None, 0, (0, "k"), ("k", None)]:
            self.refused(stepper, NoKey, stepper.writer, thing)

    def test_no_deed(self):
        stepper = Stepper(book())
        self.refused(stepper, NoDeed, stepper.undo)
        stepper.begin("reads")
        stepper.undo()
        self.refused(stepper, NoDeed, stepper.undo)

    def test_refused_the_stepper_goes_on_as_ahead(self):
        stepper = self.busy()
        for call, thing in ((stepper.step, 4), (stepper.end, 3), (stepper.drop, 0), (stepper.begin, "none")):
            self.assertRaises(errors.SnapError, call, thing)
        self.assertEqual(stepper.step(3), ("write", ("k", 2), None))
        self.assertIs(stepper.end(4), True)
        self.assertEqual(stepper.begin("reads"), 5)
        self.assertEqual(stepper.rows()[-1], ("begin", "reads", [("k", 3)]))


class Told(StepperTest):

    def test_of_none_begun(self):
        stepper = Stepper(book())
        self.assertEqual((len(stepper), str(stepper), stepper.rows(), stepper.writer(("k", 0))), (0, "", [], None))

    def test_states(self):
        stepper = Stepper(book())
        stepper.begin("writes", [("k", 1)])
        self.assertEqual((stepper.state(0), str(stepper)), ("open", "open"))
        stepper.step(0)
        self.assertEqual(stepper.state(0), "open")
        all_done(stepper, "writes", [("k", 1)])
        stepper.begin("reads")
        self.assertEqual(str(stepper), "open open open")
        stepper.end(1)
        self.assertEqual(str(stepper), "open stands open")
        stepper.end(0)
        stepper.drop(2)
        self.assertEqual(str(stepper), "off stands off")
        self.assertEqual([stepper.state(number) for number in range(3)], ["off", "stands", "off"])
        self.assertEqual(len(stepper), 3)

    def test_writer(self):
        stepper = Stepper(book())
        self.assertIsNone(unchanged(self, stepper.writer, ("k", 1)))
        all_done(stepper, "writes", [("k", 1)])
        self.assertIsNone(stepper.writer(("k", 1)))
        ended(stepper, "asks", [("k", 1)])
        self.assertEqual(stepper.writer(("k", 1)), 1)
        stepper.end(0)
        self.assertEqual(stepper.writer(("k", 1)), 1)
        ended(stepper, "reads", [("k", 1)])
        self.assertEqual(stepper.writer(("k", 1)), 1)
        all_done(stepper, "writes", [("k", 1)])
        stepper.drop(3)
        self.assertEqual(stepper.writer(("k", 1)), 1)
        ended(stepper, "writes", [("k", 1)])
        self.assertEqual([stepper.writer(("k", 1)), stepper.writer(("k", 2)), stepper.writer(("l", 0))], [4, None, None])
        self.assertIsNone(stepper.writer(("k", 10 ** 59)))
        ended(stepper, "lone")
        self.assertEqual(stepper.writer(("l", 0)), 5)

    def test_rows(self):
        stepper = Stepper(book())
        stepper.begin("writes", [("k", 5)])
        stepper.begin("mixed")
        stepper.step(0)
        stepper.step(1)
        stepper.end(0)
        stepper.drop(1)
        rows = [("begin", "writes", [("k", 5)]), ("begin", "mixed", [("k", 6), ("l", 0), ("k", 7)]), ("step", 0),
                ("step", 1), ("end", 0), ("drop", 1)]
        self.assertEqual(stepper.rows(), rows)
        for row in stepper.rows():
            self.assertIs(type(row), tuple)
        self.assertIs(type(stepper.rows()[0][2]), list)

    def test_an_end_that_calls_off_is_told_as_an_end(self):
        stepper = Stepper(book())
        all_done(stepper, "writes", [("k", 1)])
        ended(stepper, "writes", [("k", 1)])
        stepper.end(0)
        self.assertEqual(stepper.rows()[-1], ("end", 0))

    def test_told_rows_are_the_askers_own(self):
        stepper = Stepper(book())
        stepper.begin("both", [("k", 5), ("k", 6)])
        stepper.step(0)
        ahead = copy.deepcopy(stepper.rows())
        rows = stepper.rows()
        rows[0][2].clear()
        rows.clear()
        self.assertEqual(stepper.rows(), ahead)
        self.assertEqual(stepper.step(0), ("write", ("k", 6), None))
        stepper.begin("reads")
        self.assertEqual(stepper.rows()[-1], ("begin", "reads", [("k", 7)]))
        stepper.rows()[0][2][0] = ("k", 90)
        self.assertEqual(stepper.step(0), ("read", ("k", 5), None))

    def test_done_again_the_rows_tell_the_same(self):
        stepper = Refusals().busy()
        other = Stepper(book())
        for word, *told in stepper.rows():
            getattr(other, word)(*told)
        self.assertEqual(all_told(other), all_told(stepper))
        self.assertEqual(other, stepper)

    def test_keys_that_were_handed_in_and_are_changed_behind_the_call(self):
        stepper = Stepper(book())
        keys = [("k", 5), ("k", 6)]
        stepper.begin("both", keys)
        keys[0] = ("k", 90)
        keys.append(("k", 91))
        self.assertEqual(stepper.rows(), [("begin", "both", [("k", 5), ("k", 6)])])
        self.assertEqual([stepper.step(0)[1] for _ in range(4)], [("k", 5), ("k", 6), ("k", 5), ("k", 6)])
        stepper.begin("reads")
        self.assertEqual(stepper.rows()[-1], ("begin", "reads", [("k", 7)]))

    def test_the_books_lists_changed_behind_the_call(self):
        ours = book()
        stepper = Stepper(ours)
        stepper.begin("both")
        ours[0][0] = ("k", False)
        ours[0].append(("z", True))
        for _, letters, steps in ours[1]:
            letters.clear()
            steps.clear()
        ours[1].clear()
        self.assertEqual(stepper.left(0), 4)
        self.assertEqual([stepper.step(0)[1] for _ in range(4)], [("k", 0), ("k", 1), ("k", 0), ("k", 1)])
        self.assertIs(stepper.end(0), True)
        self.assertEqual(stepper.begin("both"), 1)
        self.assertEqual(stepper.rows()[-1], ("begin", "both", [("k", 2), ("k", 3)]))
        self.refused(stepper, NoKey, stepper.writer, ("z", 0))
        self.assertEqual(stepper.writer(("k", 1)), 0)
        other = Stepper(book())
        for word, *told in stepper.rows():
            getattr(other, word)(*told)
        self.assertEqual(other, stepper)
        self.assertEqual(len(stepper.twin()), 2)

    def test_the_book_stays_as_it_was(self):
        ours = book()
        stepper = Stepper(ours)
        ended(stepper, "both")
        stepper.rows()[0][2].clear()
        stepper.undo()
        stepper.twin().begin("lone")
        self.assertEqual(ours, book())


class Equal(StepperTest):

    def test_a_stepper_of_an_equal_book_with_the_same_run(self):
        one, other = Stepper(book()), Stepper(book())
        self.assertTrue(one == other)
        self.assertFalse(one != other)
        for stepper in (one, other):
            ended(stepper, "both")
        self.assertTrue(one == other)
        self.assertIs(one == one, True)

    def test_fresh_keys_are_like_the_same_keys_handed_in(self):
        one, other = Stepper(book()), Stepper(book())
        one.begin("both")
        other.begin("both", [("k", 0), ("k", 1)])
        self.assertTrue(one == other)

    def test_another_run(self):
        one, other = Stepper(book()), Stepper(book())
        one.begin("reads")
        self.assertFalse(one == other)
        self.assertTrue(one != other)
        other.begin("reads", [("k", 1)])
        self.assertFalse(one == other)
        other.undo()
        other.begin("writes")
        self.assertFalse(one == other)
        other.undo()
        other.begin("reads")
        self.assertTrue(one == other)
        one.step(0)
        self.assertFalse(one == other)
        other.drop(0)
        self.assertFalse(one == other)

    def test_the_same_states_by_other_rows(self):
        one, other = Stepper(book()), Stepper(book())
        for stepper, order in ((one, (0, 1)), (other, (1, 0))):
            stepper.begin("writes")
            stepper.begin("writes")
            for number in order:
                stepper.step(number)
        self.assertEqual(str(one), str(other))
        self.assertFalse(one == other)

    def test_what_was_undone_does_not_count(self):
        one, other = Stepper(book()), Stepper(book())
        for stepper in (one, other):
            stepper.begin("reads")
        one.step(0)
        one.undo()
        self.assertTrue(one == other)

    def test_another_book(self):
        for ours in (small_book(), wide_book(), renamed(book(), ["k", "m"]), renamed(book(), ["l", "k"]),
                     chosen(book(), [0, 1, 2, 3, 4, 5]), chosen(book(), [1, 0, 2, 3, 4, 5, 6])):
            self.assertFalse(Stepper(book()) == Stepper(ours))
            self.assertTrue(Stepper(ours) == Stepper(copy.deepcopy(ours)))

    def test_things_of_other_kinds(self):
        stepper = Stepper(book())
        for thing in [None, True, 0, "", [], (), {}, book(), stepper.rows(), object(), Alike(), Stepper, len(stepper)]:
            self.assertIs(stepper == thing, False)
            self.assertIs(stepper != thing, True)
        self.assertIs(stepper == Odd(), False)
        stepper.begin("reads")
        self.assertIs(stepper == stepper.rows(), False)
        self.assertIs(stepper == "open", False)


class Undone(StepperTest):

    def test_a_beginning(self):
        stepper = Stepper(book())
        ended(stepper, "writes", [("k", 4)])
        ahead = all_told(stepper)
        stepper.begin("both", [("k", 9), ("k", 8)])
        self.assertIsNone(stepper.undo())
        self.assertEqual(all_told(stepper), ahead)
        self.assertEqual(stepper.begin("reads"), 1)
        self.assertEqual(stepper.rows()[-1], ("begin", "reads", [("k", 5)]))

    def test_a_step(self):
        stepper = Stepper(book())
        stepper.begin("again")
        for many in range(3):
            ahead = all_told(stepper)
            told = stepper.step(0)
            self.assertIsNone(stepper.undo())
            self.assertEqual(all_told(stepper), ahead)
            self.assertEqual(stepper.step(0), told)
            self.assertEqual(told, ("read" if many == 2 else "ask", ("k", 0), 0 if many else None))

    def test_an_undone_writing_is_none(self):
        stepper = Stepper(book())
        all_done(stepper, "lone")
        stepper.undo()
        stepper.undo()
        self.assertEqual(stepper.left(0), 2)
        self.assertEqual([stepper.step(0), stepper.step(0)], [("write", ("l", 0), None), ("read", ("l", 0), 0)])

    def test_an_end_that_stands(self):
        stepper = Stepper(book())
        all_done(stepper, "writes", [("k", 1)])
        all_done(stepper, "writes", [("k", 1)])
        ahead = all_told(stepper)
        self.assertIs(stepper.end(0), True)
        self.assertIsNone(stepper.undo())
        self.assertEqual(all_told(stepper), ahead)
        self.assertEqual((stepper.state(0), stepper.left(0), stepper.writer(("k", 1))), ("open", 0, None))
        self.assertIs(stepper.end(1), True)
        self.assertIs(stepper.end(0), False)

    def test_an_end_that_calls_off(self):
        stepper = Stepper(book())
        all_done(stepper, "writes", [("k", 1)])
        ended(stepper, "writes", [("k", 1)])
        ahead = all_told(stepper)
        self.assertIs(stepper.end(0), False)
        stepper.undo()
        self.assertEqual(all_told(stepper), ahead)
        self.assertEqual(stepper.state(0), "open")
        self.assertIs(stepper.end(0), False)

    def test_a_dropping(self):
        for many in range(5):
            stepper = Stepper(book())
            stepper.begin("both")
            for _ in range(many):
                stepper.step(0)
            ahead = all_told(stepper)
            stepper.drop(0)
            self.assertIsNone(stepper.undo())
            self.assertEqual(all_told(stepper), ahead)
            self.assertEqual(stepper.left(0), 4 - many)

    def test_the_last_of_one_among_several(self):
        stepper = Stepper(book())
        stepper.begin("reads")
        stepper.begin("both")
        stepper.step(0)
        stepper.step(1)
        stepper.undo()
        self.assertEqual([stepper.left(0), stepper.left(1)], [1, 4])
        stepper.undo()
        self.assertEqual([stepper.left(0), stepper.left(1)], [2, 4])

    def test_back_to_nothing(self):
        stepper = Refusals().busy()
        all_rows = stepper.rows()
        for many in range(len(all_rows), 0, -1):
            self.assertEqual(stepper.rows(), all_rows[:many])
            stepper.undo()
        self.assertEqual(all_told(stepper), all_told(Stepper(book())))
        self.assertTrue(stepper == Stepper(book()))
        self.assertRaises(NoDeed, stepper.undo)
        self.assertEqual(stepper.begin("both"), 0)
        self.assertEqual(stepper.rows(), [("begin", "both", [("k", 0), ("k", 1)])])


class Twins(StepperTest):

    def test_a_twin_is_another_stepper_with_the_same_deeds(self):
        for stepper in (Stepper(book()), Refusals().busy()):
            twin = stepper.twin()
            self.assertIs(type(twin), Stepper)
            self.assertIsNot(twin, stepper)
            self.assertTrue(twin == stepper)
            self.assertEqual(all_told(twin), all_told(stepper))

    def test_a_twin_goes_on_by_itself(self):
        stepper = Refusals().busy()
        ahead = all_told(stepper)
        twin = stepper.twin()
        twin.step(3)
        twin.end(4)
        twin.drop(3)
        twin.begin("lone")
        self.assertEqual(all_told(stepper), ahead)
        while twin.rows():
            twin.undo()
        self.assertEqual(all_told(stepper), ahead)

    def test_a_stepper_goes_on_without_its_twin(self):
        stepper = Refusals().busy()
        twin = stepper.twin()
        ahead = all_told(twin)
        stepper.step(3)
        stepper.end(4)
        stepper.begin("lone")
        self.assertEqual(all_told(twin), ahead)
        while stepper.rows():
            stepper.undo()
        self.assertEqual(all_told(twin), ahead)

    def test_both_tell_alike_of_the_same_deeds(self):
        stepper = Refusals().busy()
        twin = stepper.twin()
        for one in (stepper, twin):
            self.assertEqual(one.step(3), ("write", ("k", 2), None))
            self.assertIs(one.end(4), True)
            self.assertEqual([one.step(3), one.step(3)], [("read", ("k", 1), 0), ("read", ("k", 2), 3)])
            self.assertIs(one.end(3), False)
            self.assertEqual(one.begin("reads"), 5)
        self.assertTrue(stepper == twin)

    def test_a_twin_can_be_undone_to_nothing(self):
        twin = Refusals().busy().twin()
        while twin.rows():
            twin.undo()
        self.assertTrue(twin == Stepper(book()))


class AsTheModelTells(StepperTest):
    """Long rows of deeds, over few keys, beside a model that works all out anew."""

    def same(self, stepper, model):
        numbers = range(model.many())
        self.assertEqual(len(stepper), model.many())
        self.assertEqual([stepper.state(number) for number in numbers], [model.state(number) for number in numbers])
        self.assertEqual(str(stepper), " ".join(model.state(number) for number in numbers))
        for key in (("k", 0), ("k", 1), ("k", 2), ("l", 0)):
            self.assertEqual(stepper.writer(key), model.writer(key))
        self.assertEqual(stepper.rows(), model.rows)

    def deed(self, rows, stepper, model):
        """Choose a deed that is not refused: its word and what is handed in."""
        going = [number for number in range(len(stepper)) if stepper.state(number) == "open"]
        choice = rows.random()
        if rows.random() < 0.08 and model.rows:
            return "undo", ()
        if not going or (choice < 0.2 and len(going) < 4):
            name, letters, _ = rows.choice(book()[1])
            keys = [(kind, rows.randrange(3) if kind == "k" else 0) for _, kind in letters]
            return "begin", (name, keys) if rows.random() < 0.9 else (name,)
        number = rows.choice(going)
        if choice > 0.97:
            return "drop", (number,)
        return ("step" if stepper.left(number) else "end"), (number,)

    def test_long_rows(self):
        for seed in range(60):
            rows = random.Random(seed)
            stepper, model = Stepper(book()), Model(book())
            for _ in range(60):
                word, args = self.deed(rows, stepper, model)
                self.assertEqual(getattr(stepper, word)(*args), getattr(model, word)(*args), (seed, word, args))
                self.same(stepper, model)
                if rows.random() < 0.1:
                    stepper = stepper.twin()


if __name__ == "__main__":
    unittest.main()
