"""Books with rings of so many, and a search through all runs of a few dealings that goes by the document's words."""

import itertools

from tests.judge import Judge


RINGS = {
    2: "first:k,m:read,write last:k,m:write,read",
    3: "first:k,m:read,write w:k,p:write,write last:p,m:read,read",
    4: "first:k,m:read,write w:k,p:write,write x:p,q:read,write last:q,m:read,read",
    5: "first:k,l:read,write w:k,p:write,write x:p,q:read,ask y:q,r:write,write last:r,l:read,read",
    6: "first:k,l:read,write w:k,p:write,ask x:p,q:ask,write r:q,m:read,read y:m:write last:m,l:read,read",
    7: "first:k,l:read,write w:k:write r:k,p:read,read x:p:write s:p,q:read,read y:q:write last:q,l:read,read",
    8: "first:k,l:read,ask w:k,p:write,ask x:p,q:ask,write r:q,m:read,read y:m:ask s:m,n:read,read z:n:write"
       " last:n,l:read,read",
}


def ring_book(many):
    """A book that goes wrong with so many dealings at the fewest, two to eight, each of its dealings once.

    `first` is split, `last` ends the ring; between them each dealing shares a kind with the one ahead of it and one
    with the one behind.
    """
    dealings = []
    for word in RINGS[many].split():
        name, kinds, deeds = word.split(":")
        dealings.append((name, list(zip("ab", kinds.split(","))), list(zip(deeds.split(","), "ab"))))
    used = sorted({kind for _, letters, _ in dealings for _, kind in letters})
    return ([(kind, kind != "l") for kind in used], dealings)


def weavings(many):
    """All lists in which each number of so many stands twice, sorted."""
    return sorted(set(itertools.permutations(sorted(list(range(many)) * 2))))


def key_choices(book, letters):
    """All keys for these letters, but for what their numbers are called."""
    many_of = dict(book[0])
    found = [[]]
    for _, kind in letters:
        further = []
        for keys in found:
            top = len({number for own, number in keys if own == kind})
            further += [keys + [(kind, number)] for number in range(top + 1 if many_of[kind] else 1)]
        found = further
    return found


def some_choices(book, many):
    """All lists of so many (name, keys), but for the order of the dealings and what the keys are called."""
    for dealings in itertools.combinations_with_replacement(book[1], many):
        letters = [letter for _, own, _ in dealings for letter in own]
        for keys in key_choices(book, letters):
            some, at = [], 0
            for name, own, _ in dealings:
                some.append((name, keys[at:at + len(own)]))
                at += len(own)
            yield some


def woven(book, some, weaving):
    """The run of a weaving of some dealings."""
    steps = {name: len(steps) for name, _, steps in book[1]}
    rows, begun = [], []
    for one in weaving:
        if one in begun:
            rows.append(("end", begun.index(one)))
        else:
            name, keys = some[one]
            rows += [("begin", name, keys)] + [("step", len(begun))] * steps[name]
            begun.append(one)
    return rows


def goes_wrong(book, run):
    return bool(Judge(book, run).rings())


def runs_of(book, many):
    """All runs of so many dealings; when a dealing steps, and whether others were dropped, changes no ring."""
    for some in some_choices(book, many):
        for weaving in weavings(many):
            yield woven(book, some, weaving)


def wrong_run(book, many):
    """A run of so many dealings that goes wrong, None where none does."""
    return next((run for run in runs_of(book, many) if goes_wrong(book, run)), None)
