"""The desk (points 28 and 29)."""

import random
import unittest

from snapsure.askpapers import ask_paper
from snapsure.asks import all_picks
from snapsure.desk import Desk
from snapsure.errors import (NoBook, NoDealing, NoDeed, NoEnd, NoKeys, NoName, NoNumber, NoRow, NoStep, NoText, Over,
                             StepError, TooMany)
from snapsure.orders import order_of, ring_of
from snapsure.parts import least_wrong
from snapsure.settling import fewest
from snapsure.stepper import Stepper
from snapsure.texts import read, shown
from tests.chance import chance_books
from tests.samples import book_of, deal_book, odd_things, refused, wide_book
from tests.search import RINGS, ring_book
from tests.watched import chance_deed, run_closed

TINY = "kind k many; deal d a:k b:k; read a; write b"


def row_text(book):
    """The book as it stands in a row of the desk."""
    return shown(book).replace("\n", "; ")


def desk_with(**books):
    desk = Desk()
    for name, book in books.items():
        desk.say(f"book {name} {row_text(book)}")
    return desk


def all_told(desk):
    """All that a desk tells of itself."""
    told = [desk.say("names")]
    for name in told[0].split(" ") if told[0] != "-" else []:
        told += [desk.say(f"show {name}"), desk.say(f"order {name}"), desk.say(f"ring {name}")]
        at = 0
        while True:
            try:
                told.append(desk.say(f"state {name} {at}"))
            except NoNumber:
                break
            at += 1
    return told


class DeskTest(unittest.TestCase):

    def says(self, desk, *told):
        """Row by row the answers."""
        for row, answer in told:
            with self.subTest(row=row):
                got = desk.say(row)
                self.assertEqual((type(got), got), (str, answer))

    def refuses(self, desk, refusal, *rows):
        for row in rows:
            with self.subTest(refusal=refusal.__name__, row=row if isinstance(row, str) else None):
                ahead = all_told(desk)
                told = refused(self, refusal, desk.say, row)
                self.assertEqual(all_told(desk), ahead)
        return told


class Books(DeskTest):

    def test_book_show_forget_names(self):
        self.says(Desk(), ("names", "-"), (f"book a {TINY}", "ok"), ("names", "a"), ("show a", TINY),
                  ("forget a", "ok"), ("names", "-"))

    def test_names_are_sorted(self):
        desk = Desk()
        for name in ("b", "abc", "z", "a", "zz", "aa"):
            desk.say(f"book {name} {TINY}")
        self.says(desk, ("names", "a aa abc b z zz"), ("forget b", "ok"), ("names", "a aa abc z zz"))

    def test_words_of_rows_are_names_too(self):
        desk = Desk()
        for name in ("book", "show", "names", "ring"):
            self.says(desk, (f"book {name} {TINY}", "ok"), (f"show {name}", TINY), (f"ring {name}", "-"))
        self.says(desk, ("names", "book names ring show"), ("forget book", "ok"), ("names", "names ring show"))

    def test_show_told_back_to_book(self):
        for book in [deal_book(), wide_book(), ring_book(8)] + list(chance_books(60)):
            desk = desk_with(a=book)
            told = desk.say("show a")
            self.assertEqual(read(told.replace("; ", "\n")), book)
            self.says(desk, (f"book a {told}", "ok"), ("show a", told), ("names", "a"))

    def test_a_book_in_the_stead_of_another_one(self):
        desk = desk_with(a=deal_book())
        self.says(desk, ("begin a get 0", "0"), ("step a 0", "read k 0 -"), (f"book a {TINY}", "ok"), ("show a", TINY),
                  ("names", "a"), ("begin a d 3,4", "0"), ("state a 0", "open"))
        self.refuses(desk, NoDealing, "begin a get 0")
        self.says(desk, (f"book a {TINY}", "ok"), ("order a", "-"))
        self.refuses(desk, NoDeed, "undo a")
        self.refuses(desk, NoNumber, "state a 0")

    def test_each_book_has_a_stepper_of_its_own(self):
        desk = desk_with(a=deal_book(), b=deal_book())
        self.says(desk, ("begin a put 0", "0"), ("begin b get 5", "0"), ("begin a get 0", "1"), ("drop a 0", "ok"),
                  ("state a 0", "off"), ("state b 0", "open"), ("undo b", "ok"), ("state a 1", "open"))
        self.refuses(desk, NoNumber, "state b 0")
        self.says(Desk(), ("names", "-"))

    def test_forgotten_its_stepper_is_gone(self):
        desk = desk_with(a=deal_book())
        self.says(desk, ("begin a put 0", "0"), ("forget a", "ok"))
        self.refuses(desk, NoName, "show a", "state a 0", "forget a")
        self.says(desk, (f"book a {row_text(deal_book())}", "ok"))
        self.refuses(desk, NoNumber, "state a 0")

    def test_eight_names(self):
        desk = Desk()
        for name in "abcdefgh":
            self.says(desk, (f"book {name} {TINY}", "ok"))
        self.refuses(desk, TooMany, f"book i {TINY}", f"book aa {row_text(deal_book())}")
        self.says(desk, ("names", "a b c d e f g h"), (f"book c {row_text(deal_book())}", "ok"),
                  ("show c", row_text(deal_book())), (f"book h {TINY}", "ok"))
        self.refuses(desk, TooMany, f"book i {TINY}")
        self.says(desk, ("forget a", "ok"), (f"book i {TINY}", "ok"), ("names", "b c d e f g h i"))
        self.refuses(desk, TooMany, f"book a {TINY}")

    def test_too_many_comes_behind_no_text_and_no_book(self):
        desk = Desk()
        for name in "abcdefgh":
            desk.say(f"book {name} {TINY}")
        self.refuses(desk, NoText, "book i ", "book i kind k", "book i kind k many;")
        self.refuses(desk, NoBook, "book i kind k many", "book i kind k many; deal d a:m; read a")
        self.refuses(desk, NoText, "book a ")
        self.refuses(desk, NoBook, "book a kind k many")

    def test_no_text(self):
        desk = desk_with(a=deal_book())
        for text, row in (("", 0), (" ", 0), ("kind k many; ", 1), ("; kind k many", 0), ("kind  k many", 0),
                          ("kind k many;deal d a:k; read a", 0), ("kind k many;  deal d a:k; read a", 1),
                          ("kind k many; deal d a:k; read a; step", 3),
                          (TINY + "; kind m one", 4), ("names", 0), ("-", 0)):
            self.assertEqual(self.refuses(desk, NoText, f"book a {text}").row, row)
            self.assertEqual(self.refuses(desk, NoText, f"book b {text}").row, row)

    def test_no_book(self):
        desk = desk_with(a=deal_book())
        told = self.refuses(desk, NoBook, "book a kind k many; deal d a:k b:k; read a")
        self.assertEqual((told.part, told.at, told.place), ("letters", 0, 1))
        told = self.refuses(desk, NoBook, "book a kind k many; deal d a:k; read a;")
        self.assertEqual((told.part, told.at, told.place), ("steps", 0, 0))
        told = self.refuses(desk, NoBook, "book a kind K many; deal d a:k; read a")
        self.assertEqual((told.part, told.at, told.place), ("kinds", 0, None))


class Settles(DeskTest):

    def books(self):
        yield deal_book()
        yield wide_book()
        yield from [ring_book(many) for many in RINGS]
        yield from chance_books(60)

    def test_settle(self):
        self.says(desk_with(a=deal_book(), b=wide_book(), c=ring_book(7)),
                  ("settle a", "2"), ("settle b", "sure"), ("settle c", "7"))
        for book in self.books():
            many = fewest(book)
            self.says(desk_with(a=book), ("settle a", "sure" if many is None else str(many)))

    def test_asks(self):
        book = book_of(d="a:k b:k, read a, write b", f="z:m b:p, read z, write b", g="a:p b:m, read a, write b")
        self.says(desk_with(a=deal_book(), b=book, c=book_of(d="a:k, ask a")),
                  ("asks a", "move.a"), ("asks b", "d.a f.z"), ("asks c", "-"))
        for book in self.books():
            if len(all_picks(book)) <= 6:
                told = " ".join(f"{name}.{letter}" for name, letter in ask_paper(book)[0])
                self.says(desk_with(a=book), ("asks a", told or "-"))

    def test_asks_of_too_many(self):
        self.refuses(desk_with(a=wide_book(), b=ring_book(8)), TooMany, "asks a", "asks b")

    def test_parts(self):
        self.says(desk_with(a=deal_book(), b=wide_book(), c=ring_book(3)),
                  ("parts a", "00010000"), ("parts b", "-"), ("parts c", "111"))
        book = book_of(f="a:k b:k, read a, write b", g="a:m b:m, write a, read b")
        self.says(desk_with(a=book), ("parts a", "01 10"))
        for book in self.books():
            self.says(desk_with(a=book), ("parts a", " ".join(least_wrong(book)) or "-"))


class Steps(DeskTest):

    def test_begin(self):
        self.says(desk_with(a=deal_book()), ("begin a get 0", "0"), ("begin a move 3,4", "1"), ("begin a move -", "2"),
                  ("begin a mix 0,0,0", "3"), ("begin a see 0", "4"), ("begin a mix -", "5"),
                  ("step a 2", "read k 5 -"), ("step a 2", "write k 6 -"), ("step a 5", "read k 7 -"),
                  ("step a 5", "write m 1 -"), ("step a 5", "ask l 0 -"))

    def test_keys_of_twenty_figures(self):
        most = "9" * 20
        self.says(desk_with(a=deal_book()), (f"begin a move {most},{'1' + '0' * 19}", "0"),
                  ("step a 0", f"read k {most} -"), ("step a 0", f"write k 1{'0' * 19} -"))

    def test_step(self):
        self.says(desk_with(a=deal_book()), ("begin a put 7", "0"), ("step a 0", "write k 7 -"), ("end a 0", "stands"),
                  ("begin a late 7", "1"), ("step a 1", "read k 7 0"), ("step a 1", "write k 7 -"),
                  ("step a 1", "read k 7 1"), ("begin a add 7", "2"), ("step a 2", "ask k 7 0"),
                  ("begin a mix 7,8,0", "3"), ("step a 3", "read k 7 0"), ("step a 3", "write m 8 -"),
                  ("step a 3", "ask l 0 -"))

    def test_end_drop_undo_state(self):
        self.says(desk_with(a=deal_book()), ("begin a put 0", "0"), ("begin a put 0", "1"), ("step a 0", "write k 0 -"),
                  ("step a 1", "write k 0 -"), ("state a 0", "open"), ("end a 0", "stands"), ("end a 1", "off"),
                  ("state a 0", "stands"), ("state a 1", "off"), ("undo a", "ok"), ("state a 1", "open"),
                  ("drop a 1", "ok"), ("state a 1", "off"), ("undo a", "ok"), ("undo a", "ok"), ("state a 0", "open"),
                  ("end a 1", "stands"), ("end a 0", "off"))

    def test_a_desk_steps_and_does_not_watch(self):
        desk = desk_with(a=deal_book())
        self.says(desk, ("begin a move 0,1", "0"), ("begin a move 1,0", "1"))
        for number in (0, 0, 1, 1):
            desk.say(f"step a {number}")
        self.says(desk, ("end a 0", "stands"), ("end a 1", "stands"), ("ring a", "0 1"), ("order a", "-"))

    def test_ring_and_order(self):
        desk = desk_with(a=deal_book())
        self.says(desk, ("ring a", "-"), ("order a", "-"), ("begin a put 0", "0"), ("ring a", "-"), ("order a", "-"),
                  ("step a 0", "write k 0 -"), ("end a 0", "stands"), ("order a", "0"), ("begin a put 0", "1"),
                  ("begin a get 0", "2"), ("step a 1", "write k 0 -"), ("end a 1", "stands"),
                  ("step a 2", "read k 0 0"), ("end a 2", "stands"), ("order a", "0 2 1"), ("ring a", "-"))

    def test_the_ring_in_its_own_order(self):
        desk = desk_with(a=deal_book())
        self.says(desk, ("begin a get 9", "0"), ("begin a move 0,1", "1"), ("begin a move 1,2", "2"),
                  ("begin a move 2,0", "3"))
        for number in (1, 1, 2, 2, 3, 3):
            desk.say(f"step a {number}")
        for number in (2, 3, 1):
            self.says(desk, ("ring a", "-"), (f"end a {number}", "stands"))
        self.says(desk, ("ring a", "1 3 2"), ("order a", "-"))

    def test_while_some_are_open_which_stay_so(self):
        desk = desk_with(a=deal_book())
        self.says(desk, ("begin a move 0,1", "0"), ("begin a move 1,0", "1"), ("begin a get 5", "2"),
                  ("step a 0", "read k 0 -"), ("step a 0", "write k 1 -"), ("end a 0", "stands"), ("order a", "0"),
                  ("ring a", "-"), ("state a 1", "open"), ("state a 2", "open"), ("step a 1", "read k 1 -"),
                  ("step a 1", "write k 0 -"), ("end a 1", "stands"), ("ring a", "0 1"), ("order a", "-"),
                  ("state a 2", "open"), ("undo a", "ok"), ("ring a", "-"), ("order a", "0"), ("state a 1", "open"),
                  ("step a 2", "read k 5 -"))

    def test_as_a_stepper_tells(self):
        for seed, book in enumerate(chance_books(40)):
            chance = random.Random(seed)
            desk, stepper = desk_with(a=book), Stepper(book)
            for _ in range(40):
                word, args = chance_deed(chance, book, stepper)
                told = getattr(stepper, word)(*args)
                self.says(desk, (self.row(word, args), self.answer(word, told)))
                run = run_closed(stepper)
                ring, order = ring_of(book, run), order_of(book, run)
                self.says(desk, ("ring a", " ".join(map(str, ring)) if ring else "-"),
                          ("order a", " ".join(map(str, order)) if order else "-"))

    def row(self, word, args):
        if word == "begin":
            keys = ",".join(str(number) for _, number in args[1]) if len(args) > 1 else "-"
            return f"begin a {args[0]} {keys}"
        return " ".join([word, "a"] + [str(number) for number in args])

    def answer(self, word, told):
        if word == "begin":
            return str(told)
        if word == "step":
            deed, (kind, number), seen = told
            return f"{deed} {kind} {number} {'-' if seen is None else seen}"
        if word == "end":
            return "stands" if told else "off"
        return "ok"


class Refused(DeskTest):

    def desk(self):
        """Number 0 stands, 1 is off, 2 open with a step left, 3 open with none."""
        desk = desk_with(a=deal_book(), b=wide_book())
        for row in ("begin a put 0", "begin a put 0", "step a 0", "step a 1", "end a 0", "end a 1", "begin a move 1,2",
                    "step a 2", "begin a get 3", "step a 3"):
            desk.say(row)
        return desk

    def test_anything(self):
        for desk in (Desk(), self.desk()):
            self.refuses(desk, NoRow, *odd_things())
            self.refuses(desk, NoRow, None, 0, b"names", ["names"], ("names",), {"names": 1})

    def test_a_line_feed(self):
        self.refuses(self.desk(), NoRow, "names\n", "\nnames", "show\na", "show a\n", f"book a {TINY}\n",
                     "book a " + shown(deal_book()), "book a \n", "begin a get 0\nnames", "\n")

    def test_no_word_that_is_one(self):
        self.refuses(self.desk(), NoRow, "", " ", "name", "Names", "NAMES", "shows a", "list", "books", "-", "a",
                     "why a 0", "left a 2", "rows a", "twin a", "writer a 0", "len a")

    def test_blanks(self):
        self.refuses(self.desk(), NoRow, " names", "names ", "show  a", " show a", "show a ", "step a  2", "step  a 2",
                     " step a 2", "step a 2 ", "begin a get  0", "begin a get 0 ", "undo a ", f"book  a {TINY}",
                     f" book a {TINY}", f"book  {TINY}", "names  ", "book  ", "names\t", "show\ta", "show a\t")

    def test_too_few_or_too_many_words(self):
        one = ["show", "forget", "settle", "asks", "parts", "undo", "ring", "order"]
        two = ["step", "end", "drop", "state"]
        self.refuses(self.desk(), NoRow, "names a", "names a b", "book", "book a", "begin", "begin a", "begin a get",
                     "begin a get 0 0", "begin a move 1 2", *one, *[f"{word} a b" for word in one], *two,
                     *[f"{word} a" for word in two], *[f"{word} a 2 2" for word in two])

    def test_a_name_that_is_none(self):
        names = ("A", "a1", "abcdefghi", "-", "a-b", "0", "a.b", ",", "a;")
        for word in ("show", "forget", "settle", "asks", "parts", "undo", "ring", "order"):
            self.refuses(self.desk(), NoRow, *[f"{word} {name}" for name in names])
        for name in names:
            self.refuses(self.desk(), NoRow, f"book {name} {TINY}", f"book {name} ", f"begin {name} get 0",
                         f"begin a {name} 0", f"begin a {name} -", f"step {name} 2", f"end {name} 2", f"drop {name} 2",
                         f"state {name} 2")

    def test_numbers_that_are_not_written_so(self):
        numbers = ("00", "01", "02", "+2", "-2", "-0", "2.", "2.0", "0x2", "2_0", "two", "-", "a", "1" * 21, "0" * 21,
                   "2,", "2,3", "1e3")
        for number in numbers:
            self.refuses(self.desk(), NoRow, *[f"{word} a {number}" for word in ("step", "end", "drop", "state")])
        for keys in ("00", "01", "+2", "-2", "--", "2,", ",2", "2,,3", ",", "2,03", "2,+3", "2,-", "-,-", "a", "2,a",
                     "1" * 21, "2," + "1" * 21, "2;3", "2.3", "k2", "(2,3)"):
            self.refuses(self.desk(), NoRow, f"begin a move {keys}", f"begin a get {keys}", f"begin a none {keys}")

    def test_no_row_goes_ahead_of_all_else(self):
        self.refuses(self.desk(), NoRow, "step z 02", "begin z none 01", "begin z Get 0", "show z ", "book Z ",
                     "state z", "begin a none 0 0", "end a 0 0", "begin z get 0,")

    def test_no_name(self):
        rows = [f"{word} z" for word in ("show", "forget", "settle", "asks", "parts", "undo", "ring", "order")]
        rows += [f"{word} z 0" for word in ("step", "end", "drop", "state")] + ["begin z get 0", "begin z none -"]
        self.refuses(self.desk(), NoName, *rows)
        self.refuses(Desk(), NoName, *rows)
        self.refuses(self.desk(), NoName, "step z 99", "begin z none 1,2,3", "show aa")

    def test_no_number(self):
        self.refuses(self.desk(), NoNumber, *[f"{word} a {number}" for word in ("step", "end", "drop", "state")
                                              for number in ("4", "10", "9" * 20)])
        self.refuses(self.desk(), NoNumber, "state b 0")

    def test_over(self):
        self.refuses(self.desk(), Over, "step a 0", "end a 0", "drop a 0", "step a 1", "end a 1", "drop a 1")

    def test_no_step_and_no_end(self):
        self.refuses(self.desk(), NoStep, "step a 3")
        self.refuses(self.desk(), NoEnd, "end a 2")

    def test_no_deed(self):
        self.refuses(self.desk(), NoDeed, "undo b")

    def test_no_dealing(self):
        self.refuses(self.desk(), NoDealing, "begin a none 0", "begin a none -", "begin a k 0", "begin b get 0",
                     "begin a none 0,1,2,3,4,5")

    def test_no_keys(self):
        self.refuses(self.desk(), NoKeys, "begin a get 0,1", "begin a move 0", "begin a move 0,1,2", "begin a mix 0,0",
                     "begin a see 0,0", "begin a see 1", "begin a mix 0,0,1")

    def test_too_many_begun(self):
        desk = desk_with(a=deal_book())
        for number in range(40):
            self.says(desk, ("begin a get 0", str(number)))
        self.refuses(desk, TooMany, "begin a get 0", "begin a get -")
        self.refuses(desk, NoKeys, "begin a get 0,0")
        self.refuses(desk, NoDealing, "begin a none 0")

    def test_they_stand_under_step_error(self):
        self.assertTrue(issubclass(NoRow, StepError) and issubclass(NoName, StepError))

    def test_refused_the_desk_goes_on_as_ahead(self):
        desk = self.desk()
        for row in ("step a 3", "end a 2", "undo b", "forget z", "book a ", "begin a get 0,1", "names "):
            self.assertRaises(Exception, desk.say, row)
        self.says(desk, ("step a 2", "write k 2 -"), ("end a 2", "stands"), ("begin a get -", "4"), ("names", "a b"))

    def test_by_name(self):
        self.assertEqual(Desk().say(row="names"), "-")


if __name__ == "__main__":
    unittest.main()
