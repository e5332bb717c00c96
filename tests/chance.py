"""Books and runs by chance, the same for the same seed, and runs written shortly."""

import random

from snapsure.naming import chosen, renamed
from tests.samples import deal_book


def script(book, text):
    """The rows that a short text tells.

    `move:k0,k1` begins a dealing over these keys; `0` does all steps that 0 has left, `0.` one; `0!` ends it and
    `0x` drops it.
    """
    many_of = {name: len(steps) for name, _, steps in book[1]}
    rows, left = [], []
    for word in text.split():
        if ":" in word:
            name, keys = word.split(":")
            rows.append(("begin", name, [(key[0], int(key[1:])) for key in keys.split(",")]))
            left.append(many_of[name])
        elif word[-1] in "!x":
            rows.append(("end" if word[-1] == "!" else "drop", int(word[:-1])))
        else:
            number = int(word.rstrip("."))
            many = 1 if word[-1] == "." else left[number]
            rows.extend([("step", number)] * many)
            left[number] -= many
    return rows


def chance_book(chance, most_dealings=4, most_letters=3, most_steps=4):
    """A book by chance, of few kinds."""
    kinds = [("k", True), ("m", True), ("l", False), ("n", False)]
    kinds = chance.sample(kinds, chance.randint(1, 3))
    dealings = []
    for at in range(chance.randint(1, most_dealings)):
        many = chance.randint(1, most_letters)
        letters = [(sign, chance.choice(kinds)[0]) for sign in chance.sample("abcdefz", many)]
        used = [sign for sign, _ in letters]
        used += [chance.choice(used) for _ in range(chance.randint(0, max(0, most_steps - many)))]
        chance.shuffle(used)
        deeds = chance.choice((("read", "write"), ("read", "write", "ask")))
        dealings.append(("d" + "abcdefgh"[at], letters, [(chance.choice(deeds), sign) for sign in used]))
    return (kinds, dealings)


def chance_run(chance, book, many, keys=2, open_most=4):
    """A run by chance of so many dealings of the book, over few keys of each kind."""
    lone = [name for name, without_end in book[0] if not without_end]
    rows, going = [], {}
    begun = 0
    while begun < many or going:
        pick = chance.random()
        if begun < many and len(going) < open_most and (pick < 0.5 or not going):
            name, letters, steps = chance.choice(book[1])
            rows.append(("begin", name, [(kind, 0 if kind in lone else chance.randrange(keys)) for _, kind in letters]))
            going[begun] = len(steps)
            begun += 1
            continue
        number = chance.choice(list(going))
        if pick > 0.985:
            rows.append(("drop", number))
            del going[number]
        elif going[number]:
            rows.append(("step", number))
            going[number] -= 1
        else:
            rows.append(("end", number))
            del going[number]
    return rows


def chance_runs(seeds, most=6):
    """So many books, each with a run by chance of at most so many dealings.

    Only each third book is one by chance: `move` and its likes go wrong more often.
    """
    for seed in range(seeds):
        chance = random.Random(seed)
        book = (chosen(deal_book(), [3]), chosen(deal_book(), [3, 0, 2]), chance_book(chance))[seed % 3]
        yield book, chance_run(chance, book, chance.randint(1, most), keys=2 + seed % 2)


def chance_books(many):
    """So many books by chance."""
    for seed in range(many):
        yield chance_book(random.Random(seed), 5, 4, 6)


def names_otherwise(book):
    """What the kinds, the dealings and the letters of each dealing are called otherwise."""
    kinds = dict(zip([name for name, _ in book[0]], ("zz", "y", "x", "w")))
    names = dict(zip([name for name, _, _ in book[1]], ("pa", "zz", "o", "p", "n")))
    signs = {name: dict(zip([letter for letter, _ in letters], "zyxw")) for name, letters, _ in book[1]}
    return kinds, names, signs


def book_otherwise(book):
    """The book with all called otherwise and the dealings the other way about."""
    kinds, names, signs = names_otherwise(book)
    letters = ["".join(signs[name].values()) for name in names]
    other = renamed(book, list(kinds.values()), list(names.values()), letters)
    return chosen(other, list(range(len(names)))[::-1])


def called_otherwise(book, run):
    """The book and the run with all called otherwise; and how the kinds are."""
    kinds, names, _ = names_otherwise(book)
    rows = [(row[0], names[row[1]], [(kinds[kind], at) for kind, at in row[2]]) if row[0] == "begin" else row
            for row in run]
    return book_otherwise(book), rows, kinds


def hooks_called_otherwise(book):
    """The book with all called otherwise; how the dealings are, and what tells how a hook is."""
    _, names, signs = names_otherwise(book)
    return book_otherwise(book), names, lambda hook: (names[hook[0]], signs[hook[0]][hook[1]])
