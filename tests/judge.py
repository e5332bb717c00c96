"""A plain judge of runs and books, for comparison: it goes by the document's words alone, and slowly."""

import itertools

from tests.model import Model


class Judge:
    """What the document says of one run; what the rows tell is worked out by the model of the stepper."""

    def __init__(self, book, run):
        self.book, self.run = book, run
        model = Model(book)
        self.told = [getattr(model, row[0])(*row[1:]) for row in run]
        self.begin, self.close, self.steps, self.stand = {}, {}, {}, []
        for at, (row, told) in enumerate(zip(run, self.told)):
            if row[0] == "begin":
                self.begin[told], self.steps[told] = at, []
            elif row[0] == "step":
                self.steps[row[1]].append(told)
            else:
                self.close[row[1]] = at
                if told:
                    self.stand.append(row[1])
        self.ended = list(self.stand)
        self.stand.sort()

    def seen_by(self, number):
        return [(key, seen) for deed, key, seen in self.steps[number] if deed in ("read", "ask")]

    def written_by(self, number):
        return {key for deed, key, _ in self.steps[number] if deed in ("write", "ask")}

    def writers(self):
        """Of each key the one of those that stand that wrote it and ended last."""
        return {key: number for number in self.ended for key in self.written_by(number)}

    def must(self):
        found = set()
        for one, other in itertools.permutations(self.stand, 2):
            for key, seen in self.seen_by(other):
                if seen == one:
                    found.add((one, other, "seen", key))
            for key in self.written_by(one) & self.written_by(other):
                if self.close[one] < self.close[other]:
                    found.add((one, other, "over", key))
            for key, seen in self.seen_by(one):
                if seen != one and key in self.written_by(other) and self.close[other] > self.begin[one]:
                    found.add((one, other, "past", key))
        return sorted(found)

    def overlap(self, one, other):
        return self.begin[one] < self.close[other] and self.begin[other] < self.close[one]

    def past(self, one, other):
        """The one must come ahead of the other by past, and overlaps it."""
        words = {row[2] for row in self.must() if row[:2] == (one, other)}
        return "past" in words and self.overlap(one, other)

    def between(self):
        others = {(one, other) for one in self.stand for other in self.stand if one != other and self.past(one, other)}
        return [number for number in self.stand
                if any(one == number for one, _ in others) and any(other == number for _, other in others)]

    def pairs(self):
        return {row[:2] for row in self.must()}

    def orders(self):
        """All orders, the first of those that lists have first."""
        pairs = self.pairs()
        return [list(row) for row in itertools.permutations(self.stand)
                if not any((later, one) in pairs for one, later in itertools.combinations(row, 2))]

    def rings(self):
        """All rings, wherever they begin."""
        pairs = self.pairs()
        found = []
        for many in range(2, len(self.stand) + 1):
            for row in itertools.permutations(self.stand, many):
                if all((row[at - 1], row[at]) in pairs for at in range(many)):
                    found.append(list(row))
        return found

    def is_split(self):
        """Whether the run is a split: 0 begins, the others go in a row, 0 steps and ends; all stand, and are a ring."""
        many = len(self.begin)
        if many < 2 or self.stand != list(range(many)) or self.begin[0] != 0:
            return False
        at = 1
        for number in range(1, many):
            last = self.begin[number] + len(self.steps[number]) + 1
            if self.begin[number] != at or self.close[number] != last:
                return False
            at = last + 1
        behind = [row for row in self.run[at:] if row != ("step", 0)]
        ring = [(number, (number + 1) % many) for number in range(many)]
        return behind == [("end", 0)] and set(ring) <= self.pairs()

    def one_by_one(self, order):
        rows = []
        for place, number in enumerate(order):
            rows.append(self.run[self.begin[number]])
            rows += [("step", place)] * len(self.steps[number]) + [("end", place)]
        return rows

    def tells_same(self, order):
        alone = Judge(self.book, self.one_by_one(order))
        place = {number: at for at, number in enumerate(order)}
        place[None] = None
        for number in order:
            if [(key, place[seen]) for key, seen in self.seen_by(number)] != alone.seen_by(place[number]):
                return False
        return {key: place[number] for key, number in self.writers().items()} == alone.writers()


class BookJudge:
    """What the document says of hooks and tables."""

    def __init__(self, book):
        self.many = dict(book[0])
        self.names = [name for name, _, _ in book[1]]
        self.places = {name: self._places(letters, steps) for name, letters, steps in book[1]}

    def _places(self, letters, steps):
        """By the first letter of each place: its kind, and the deeds at it."""
        kind_of, found = dict(letters), {}
        for letter, kind in letters:
            one_key = not self.many[kind]
            alike = [other for other, _ in letters if other == letter or (one_key and kind_of[other] == kind)]
            if alike[0] == letter:
                found[letter] = (kind, {deed for deed, used in steps if used in alike})
        return found

    def is_bare(self, place):
        return place[1] == {"read"}

    def meet(self, one, other):
        return one[0] == other[0] and not (self.is_bare(one) and self.is_bare(other))

    def lone_written(self, name):
        return {kind for kind, deeds in self.places[name].values() if deeds != {"read"} and not self.many[kind]}

    def all_hooks(self, first):
        return [(name, letter) for name in self.names if not self.lone_written(name) & self.lone_written(first)
                for letter in self.places[name]]

    def place(self, hook):
        return self.places[hook[0]][hook[1]]

    def first_hooks(self, first):
        bare = [place for place in self.places[first].values() if self.is_bare(place)]
        return sorted(hook for hook in self.all_hooks(first)
                      if any(self.meet(place, self.place(hook)) for place in bare))

    def further(self, first, hook):
        places = self.places[hook[0]].values()
        return sorted(other for other in self.all_hooks(first)
                      if any(self.meet(place, self.place(other)) for place in places))

    def bites(self, first, hook):
        return any(self.is_bare(place) and letter != hook[1] and self.meet(place, own)
                   for letter, place in self.places[hook[0]].items() for own in self.places[first].values())

    def hanging(self, first):
        """All that hang, by going over them till no more are found."""
        found = set(self.first_hooks(first))
        while True:
            more = found.union(*[self.further(first, hook) for hook in found])
            if more == found:
                return sorted(found)
            found = more

    def is_row(self, first, hooks):
        """Whether unlike hooks beside the first one can be its row of a table."""
        asked = set(self.first_hooks(first)).union(*[self.further(first, hook) for hook in hooks])
        return asked <= set(hooks) and not any(self.bites(first, hook) for hook in hooks)
