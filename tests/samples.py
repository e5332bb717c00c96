"""Books and odd things that the tests share."""

import copy


def small_book():
    """Two kinds and two dealings, all deeds among the steps."""
    return (
        [("row", True), ("sum", False)],
        [
            ("take", [("a", "row"), ("b", "row"), ("s", "sum")],
             [("read", "a"), ("write", "b"), ("ask", "s")]),
            ("put", [("x", "row")], [("write", "x"), ("read", "x")]),
        ],
    )


def wide_book():
    """As many of all as a book may have."""
    letters = [("a", "ka"), ("b", "kb"), ("c", "kc"), ("d", "kd")]
    steps = [("read", "a"), ("write", "b"), ("ask", "c"), ("read", "d")] * 2
    kinds = [("k" + sign, sign in "abc") for sign in "abcdef"]
    return (kinds, [("d" + sign * 7, list(letters), list(steps)) for sign in "abcdefgh"])


class Odd:
    """A thing that refuses whatever is asked of it."""

    __hash__ = None

    def _refuse(self, *told):
        raise RuntimeError("asked of an odd thing")

    __eq__ = __ne__ = __lt__ = __le__ = __gt__ = __ge__ = _refuse
    __bool__ = __len__ = __iter__ = __contains__ = __getitem__ = _refuse
    __repr__ = __str__ = __int__ = __index__ = __call__ = _refuse


class Alike:
    """A thing that says it is equal to all."""

    def __eq__(self, other):
        return True

    def __hash__(self):
        return 0


def odd_things():
    """Things that are no name, no number, no key, no list of any, no tuple of any."""
    return [
        None, True, False, object(), Odd(), Alike(), int, len, lambda: 1, Ellipsis,
        b"", b"a", b"take", bytearray(b"a"), set(), {1}, frozenset(), {}, {"a": 1}, {0: "a"},
        range(3), iter([]), (sign for sign in "ab"), 1j, ValueError("a"),
        "", "A", " ", "a b", "take ", "nosuchnm", "take\n", "\n", -1, -10 ** 60, 10 ** 60, [], (), [[]], ((),), [None],
        (None, None), [Odd()], (Odd(), Odd()), [(Odd(), 0)], [("row", Odd())], ("row", Odd()), (Odd(), 0),
        [Alike()], (Alike(), Alike()), (Alike(), 0), ("row", Alike()), (["row"], 0), ("row", [0]),
        ("nosuchnm", 0), ["row", 0], ("row",), ("row", 0, 0), ("row", -1), ("row", True), ("sum", False),
        ("sum", 1), ("row", "0"), ("row", None), (b"row", 0), ({}, {}), [{}, {}],
    ]


def unchanged(test, call, *handed):
    """Run the call and tell what it told or raised; what was handed in must stay as it was."""
    ahead = copy.deepcopy(handed)
    try:
        told = call(*handed)
    finally:
        test.assertEqual(handed, ahead)
    return told
