"""Books and odd things that the tests share."""

import copy

from snapsure.errors import NoRun


def small_book():
    """Two kinds and two dealings, all deeds among the steps."""
    return (
        [("row", True), ("sum", False)],
        [
            ("take", [("a", "row"), ("b", "row"), ("s", "sum")],
             [("read", "a"), ("write", "b"), ("ask", "s")]),
            ("put", [("x", "row")], [("write", "x"), ("read", "x")]),
        ],
    )


def wide_book():
    """As many of all as a book may have."""
    letters = [("a", "ka"), ("b", "kb"), ("c", "kc"), ("d", "kd")]
    steps = [("read", "a"), ("write", "b"), ("ask", "c"), ("read", "d")] * 2
    kinds = [("k" + sign, sign in "abc") for sign in "abcdef"]
    return (kinds, [("d" + sign * 7, list(letters), list(steps)) for sign in "abcdefgh"])


class Odd:
    """A thing that refuses whatever is asked of it."""

    __hash__ = None

    def _refuse(self, *told):
        raise RuntimeError("asked of an odd thing")

    __eq__ = __ne__ = __lt__ = __le__ = __gt__ = __ge__ = _refuse
    __bool__ = __len__ = __iter__ = __contains__ = __getitem__ = _refuse
    __repr__ = __str__ = __int__ = __index__ = __call__ = _refuse


class Alike:
    """A thing that says it is equal to all."""

    def __eq__(self, other):
        return True

    def __hash__(self):
        return 0


def odd_things():
    """Things that are no name, no number, no key, no list of any, no tuple of any."""
    return [
        None, True, False, object(), Odd(), Alike(), int, len, lambda: 1, Ellipsis,
        b"", b"a", b"take", bytearray(b"a"), set(), {1}, frozenset(), {}, {"a": 1}, {0: "a"},
        range(3), iter([]), (sign for sign in "ab"), 1j, ValueError("a"),
        "", "A", " ", "a b", "take ", "nosuchnm", "take\n", "\n", -1, -10 ** 60, 10 ** 60, [], (), [[]], ((),), [None],
        (None, None), [Odd()], (Odd(), Odd()), [(Odd(), 0)], [("row", Odd())], ("row", Odd()), (Odd(), 0),
        [Alike()], (Alike(), Alike()), (Alike(), 0), ("row", Alike()), (["row"], 0), ("row", [0]),
        ("nosuchnm", 0), ["row", 0], ("row",), ("row", 0, 0), ("row", -1), ("row", True), ("sum", False),
        ("sum", 1), ("row", "0"), ("row", None), (b"row", 0), ({}, {}), [{}, {}],
    ]


def unchanged(test, call, *handed):
    """Run the call and tell what it told or raised; what was handed in must stay as it was."""
    ahead = copy.deepcopy(handed)
    try:
        told = call(*handed)
    finally:
        test.assertEqual(handed, ahead)
    return told


def deal_book():
    """Eight short dealings over keys of two kinds with many keys and one with one key."""
    return (
        [("k", True), ("m", True), ("l", False)],
        [
            ("get", [("a", "k")], [("read", "a")]),
            ("put", [("a", "k")], [("write", "a")]),
            ("add", [("a", "k")], [("ask", "a")]),
            ("move", [("a", "k"), ("b", "k")], [("read", "a"), ("write", "b")]),
            ("late", [("a", "k")], [("read", "a"), ("write", "a"), ("read", "a")]),
            ("own", [("a", "k")], [("write", "a"), ("read", "a")]),
            ("see", [("x", "l")], [("read", "x")]),
            ("mix", [("a", "k"), ("c", "m"), ("x", "l")], [("read", "a"), ("write", "c"), ("ask", "x")]),
        ],
    )


def book_of(**dealings):
    """A book of dealings told shortly, as `f="a:k b:m, read a, write b"`; of l and n there is one key."""
    told = []
    for name, text in dealings.items():
        head, *steps = text.split(", ")
        letters = [tuple(word.split(":")) for word in head.split(" ")]
        told.append((name, letters, [tuple(step.split(" ")) for step in steps]))
    return ([("k", True), ("m", True), ("p", True), ("l", False), ("n", False)], told)


def no_runs():
    """Things that are no run of the deal book, each with the row that NoRun tells of it."""
    good = [("begin", "get", [("k", 0)]), ("step", 0), ("end", 0)]
    return [(thing, None) for thing in odd_things() if not isinstance(thing, list)] + [
        (tuple(good), None), ({0: good[0]}, None), (good * 134, None), ([Odd()] * 401, None),
        ([Odd()], 0), ([None], 0), ([[]], 0), ([()], 0), ([Odd()] * 400, 0), ([list(good[0])] + good[1:], 0),
        (good[:1] + [Odd()] + good[1:], 1), (good + [("step", 0)], 3), (good + [("end", 0)], 3),
        (good[:1] + good[2:], 1),
        (good[:2] + [("step", 0)] + good[2:], 2), (good + [("drop", True)], 3), (good + [("drop", 1)], 3),
        (good + [("begin", "none", [("k", 0)])], 3), (good + [("begin", "get", None)], 3),
        (good[:1], 1), (good[:2], 2), (good + good[:1], 4),
    ]


def marks(thing):
    """What a thing is made of, down to single objects: two marks are equal where nothing was changed in it."""
    if isinstance(thing, (list, tuple)):
        return (id(thing), [marks(part) for part in thing])
    if isinstance(thing, dict):
        return (id(thing), [(marks(key), marks(value)) for key, value in thing.items()])
    return id(thing)


def told_of(test, call, *handed):
    """Like unchanged, also where what is handed in can't be compared or copied."""
    ahead = marks(handed)
    told = call(*handed)
    test.assertEqual(marks(handed), ahead)
    return told


def refused(test, refusal, call, *handed):
    """The call is refused just so, and nothing that was handed in is changed; told is the refusal."""
    ahead = marks(handed)
    with test.assertRaises(refusal) as caught:
        call(*handed)
    test.assertIs(type(caught.exception), refusal)
    test.assertEqual(marks(handed), ahead)
    return caught.exception


def no_run(test, row, call, *handed):
    """The call is refused with NoRun, whose row is this one."""
    told = refused(test, NoRun, call, *handed).row
    test.assertEqual((type(told), told), (type(row), row))


def refuses_no_runs(test, call):
    """The call, of a book and a run, refuses all that is no run of the deal book."""
    for thing, row in no_runs():
        with test.subTest(row=row):
            no_run(test, row, call, deal_book(), thing)
