"""What is promised over the whole program (points 1 to 3), for drawn books, runs, tables and deeds."""

import copy
import itertools
import random
import unittest

from snapsure.ahead import between, must
from snapsure.alone import one_by_one, tells_same
from snapsure.askpapers import ask_paper, is_ask_paper
from snapsure.asks import all_picks, asked
from snapsure.books import dealing_by, look_at_book
from snapsure.desk import Desk
from snapsure.hooks import first_hooks, further, hanging
from snapsure.naming import chosen, renamed
from snapsure.orders import is_order, is_ring, order_of, ring_of
from snapsure.parts import greatest_sure, is_sure, least_wrong, part_by
from snapsure.places import bare_places, beside, places_of
from snapsure.runs import is_run, replayed, standing
from snapsure.settling import fewest, settled
from snapsure.spans import spans_of
from snapsure.splits import is_split
from snapsure.stepper import Stepper
from snapsure.tables import is_table, table_of
from snapsure.texts import read, shown
from snapsure.watcher import Watcher
from snapsure.weavings import counts_of, first_wrong, run_of
from tests.chance import called_otherwise, chance_book, chance_run, chance_runs
from tests.judge import BookJudge, Judge
from tests.samples import book_of, deal_book, unchanged
from tests.search import RINGS, ring_book, wrong_run
from tests.test_settling import greatest_book
from tests.watched import chance_deed, run_closed


def books():
    """Drawn books of all sizes, with rings of all lengths."""
    yield deal_book()
    for many in RINGS:
        yield ring_book(many)
    for seed in range(100):
        chance = random.Random(seed)
        yield chance_book(chance, chance.randint(1, 5), 4, 6)
    for seed in range(6):
        yield greatest_book(random.Random(seed), (("read", "write"), ("read", "read", "read", "write"))[seed % 2], 0.5)


def alike_to_an_order(test, book, run):
    """The run has an order, done in which each reads of the same one, and each key is written last by the same one."""
    order = order_of(book, run)
    test.assertIs(is_order(book, run, order), True, (book, run))
    test.assertIs(tells_same(book, run, order), True)
    test.assertIs(Judge(book, run).tells_same(order), True)
    test.assertIsNone(ring_of(book, run))
    test.assertIs(is_run(book, one_by_one(book, run, order)), True)


class Whole(unittest.TestCase):

    def test_a_just_one_of_two_is_told(self):
        words = []
        for book in books():
            word, thing = unchanged(self, settled, book)
            words.append(word)
            self.assertIn(word, ("run", "sure"))
            self.assertEqual(word == "sure", is_table(book, thing))
            self.assertEqual(word == "run", is_split(book, thing))
            self.assertEqual(table_of(book), thing if word == "sure" else None)
            self.assertEqual(fewest(book) is None, word == "sure")
        self.assertGreater(min(words.count("run"), words.count("sure")), 15)

    def test_b_the_told_run(self):
        for book in books():
            word, run = settled(book)
            if word == "run":
                many = fewest(book)
                stepper = Stepper(book)
                self.assertEqual([getattr(stepper, row[0])(*row[1:]) for row in run], replayed(book, run))
                self.assertEqual(standing(book, run), list(range(many)))
                self.assertIs(is_ring(book, run, ring_of(book, run)), True)
                first, *others = spans_of(book, run)
                self.assertTrue(all(first.first < span.first and span.last < first.last for span in others))
                self.assertTrue(all(one.last < other.first for one, other in itertools.pairwise(others)))

    def test_b_no_run_with_fewer_goes_wrong(self):
        fewer = 0
        for book, run in chance_runs(300, 7):
            judge = Judge(book, run)
            if len(judge.begin) < (fewest(book) or 40):
                self.assertIsNone(ring_of(book, run))
                fewer += 1
            elif ring_of(book, run) is not None:
                self.assertGreaterEqual(len(ring_of(book, run)), fewest(book))
        self.assertGreater(fewer, 50)
        self.assertIsNone(wrong_run(ring_book(3), 2))

    def test_c_whatever_table_is_let_by(self):
        greater, runs = 0, 0
        for seed in range(200):
            chance = random.Random(seed)
            book = chance_book(chance, 4, 3, 4)
            judge = BookJudge(book)
            every = {name: sorted(judge.all_hooks(name)) for name in judge.names}
            table = [[hook for hook in every[name] if chance.random() < 0.3 or hook in hanging(book, name)]
                     for name in judge.names]
            if is_table(book, table):
                greater += table != table_of(book)
                self.assertIsNotNone(table_of(book))
                for _ in range(3):
                    run = chance_run(chance, book, chance.randint(2, 8))
                    alike_to_an_order(self, book, run)
                    runs += 1
        self.assertGreater(greater, 20)
        self.assertGreater(runs, 100)

    def test_d_in_each_ring_one_is_between(self):
        rings = 0
        for book, run in chance_runs(200, 5):
            judge = Judge(book, run)
            spans = spans_of(book, run)
            past = {row[:2] for row in must(book, run) if row[2] == "past"}
            for ring in judge.rings():
                self.assertTrue(any(
                    (ahead, one) in past and (one, behind) in past
                    and spans[one].overlaps(spans[ahead]) and spans[one].overlaps(spans[behind])
                    for ahead, one, behind in zip(ring[-1:] + ring[:-1], ring, ring[1:] + ring[:1])), (book, run, ring))
                self.assertTrue(set(ring) & set(between(book, run)))
                rings += 1
        self.assertGreater(rings, 20)

    def test_e_the_fewest_asks(self):
        some = 0
        for book in books():
            if len(all_picks(book)) <= 6:
                picks, table, runs = ask_paper(book)
                self.assertIs(is_ask_paper(book, (picks, table, runs)), True)
                self.assertEqual(settled(asked(book, picks)), ("sure", table))
                for fewer, run in runs:
                    self.assertLess(len(fewer), len(picks))
                    self.assertIsNotNone(ring_of(asked(book, fewer), run))
                some += len(picks) > 0
        self.assertGreater(some, 10)

    def test_f_parts(self):
        for book in itertools.islice(books(), 60):
            least, greatest = least_wrong(book), greatest_sure(book)
            whole = "1" * len(book[1])
            self.assertEqual(is_sure(book, whole), not least)
            for text in least:
                part = part_by(book, text)
                self.assertEqual(least_wrong(part), ["1" * len(part[1])])
                self.assertLessEqual(fewest(book), fewest(part))
            for text in greatest:
                self.assertEqual(least_wrong(part_by(book, text)), [])

    def test_g_called_otherwise(self):
        for book in books():
            names = [name for name, _, _ in book[1]]
            letters = ["".join("zyxw"[at] for at, _ in enumerate(own)) for _, own, _ in book[1]]
            other = renamed(book, ["q" + sign for sign in "fedcba"[:len(book[0])]],
                            ["n" + sign for sign in "hgfedcba"[:len(names)]], letters)
            other = chosen(other, list(range(len(names)))[::-1])
            look_at_book(other)
            self.assertEqual(fewest(other), fewest(book))
            self.assertEqual(settled(other)[0], settled(book)[0])
            self.assertEqual(least_wrong(other), sorted(text[::-1] for text in least_wrong(book)))
            if len(all_picks(book)) <= 6:
                self.assertEqual(len(ask_paper(other)[0]), len(ask_paper(book)[0]))

    def test_g_runs_called_otherwise(self):
        for book, run in chance_runs(100):
            other, again, _ = called_otherwise(book, run)
            self.assertEqual(order_of(other, again), order_of(book, run))
            self.assertEqual(ring_of(other, again) is None, ring_of(book, run) is None)
            self.assertEqual(between(other, again), between(book, run))

    def test_g_watched_and_woven_called_otherwise(self):
        for book, run in chance_runs(60):
            other, again, _ = called_otherwise(book, run)
            one, two = Watcher(book), Watcher(other)
            for watcher, rows in ((one, run), (two, again)):
                for row in rows:
                    getattr(watcher, row[0])(*row[1:])
            self.assertEqual(str(one), str(two))
            self.assertEqual([one.why(at) for at in range(len(one))], [two.why(at) for at in range(len(two))])
            some = [row[1:] for row in run if row[0] == "begin"][:3]
            some_otherwise = [row[1:] for row in again if row[0] == "begin"][:3]
            self.assertEqual(counts_of(book, some), counts_of(other, some_otherwise))
            self.assertEqual(first_wrong(book, some), first_wrong(other, some_otherwise))

    def test_h_whatever_is_done_under_a_watcher(self):
        for seed in range(30):
            chance = random.Random(seed)
            book = list(itertools.islice(books(), seed, seed + 1))[0]
            watcher = Watcher(book)
            for _ in range(80):
                word, args = chance_deed(chance, book, watcher, most_open=6)
                getattr(watcher, word)(*args)
            alike_to_an_order(self, book, run_closed(watcher))

    def test_i_what_is_written_is_read_back(self):
        for book in books():
            self.assertEqual(read(shown(book)), book)
            desk = Desk()
            text = shown(book).replace("\n", "; ")
            self.assertEqual(desk.say(f"book a {text}"), "ok")
            self.assertEqual(desk.say("show a"), text)
            for other in (asked(book, all_picks(book)), chosen(book, [len(book[1]) - 1])):
                self.assertEqual(read(shown(other)), other)


def wreck(thing):
    """Change all lists in what was told."""
    if isinstance(thing, (list, tuple)):
        for part in thing:
            wreck(part)
    if isinstance(thing, list):
        thing.append("wrecked")
        thing.reverse()
        del thing[1:]


class ToldAndHanded(unittest.TestCase):
    """Point 2: nothing that is handed in is changed or kept, and what is told is the asker's own."""

    def calls(self):
        """(function, what is handed in) for all functions that tell lists."""
        book = chosen(deal_book(), [3, 0, 1, 7])
        run = settled(book)[1]
        sure = book_of(f="a:k, read a", w="a:k, write a", r="a:k b:m, read a, read b")
        some = [("move", [("k", 0), ("k", 1)]), ("move", [("k", 1), ("k", 0)])]
        plain = [("begin", "get", [("k", 0)]), ("step", 0), ("end", 0), ("begin", "put", [("k", 0)]), ("step", 1),
                 ("end", 1)]
        return [
            (dealing_by, book, "move"), (read, shown(book)), (renamed, book, None, None, None), (chosen, book, [1, 0]),
            (places_of, book, "mix"), (bare_places, book, "mix"), (beside, book, "move"), (replayed, book, run),
            (standing, book, run), (spans_of, book, run), (must, book, run), (between, book, run),
            (order_of, book, plain), (ring_of, book, run), (one_by_one, book, plain, [1, 0]),
            (first_hooks, book, "move"), (further, book, "move", ("move", "b")), (hanging, book, "move"),
            (table_of, sure), (settled, book), (settled, sure), (all_picks, book), (asked, book, [("get", "a")]),
            (ask_paper, book), (part_by, book, "1010"), (least_wrong, book), (greatest_sure, book),
            (run_of, book, some, [0, 1, 0, 1]), (first_wrong, book, some), (counts_of, book, some),
        ]

    def test_wrecked_answers_change_no_later_one(self):
        for call, *handed in self.calls():
            with self.subTest(call.__name__):
                told = unchanged(self, call, *handed)
                ahead = copy.deepcopy(told)
                wreck(told)
                self.assertEqual(unchanged(self, call, *handed), ahead)

    def test_wrecked_things_that_were_handed_in_change_no_answer(self):
        for call, *handed in self.calls():
            with self.subTest(call.__name__):
                handed = copy.deepcopy(handed)
                told = call(*handed)
                ahead = copy.deepcopy(told)
                wreck(handed)
                self.assertEqual(told, ahead)

    def test_the_same_asked_again_tells_the_same(self):
        for _ in range(2):
            for one, other in zip(self.calls(), self.calls()):
                self.assertEqual(one[0](*one[1:]), other[0](*other[1:]))


if __name__ == "__main__":
    unittest.main()
