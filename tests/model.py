"""A plain model of the stepper, for comparison: it keeps the deeds alone and works all out from them anew."""


class Model:

    def __init__(self, book):
        self.kinds, self.dealings = dict(book[0]), {name: (letters, steps) for name, letters, steps in book[1]}
        self.rows = []

    def steps_of(self, number):
        """All steps of a begun dealing: (deed, key)."""
        begins = [row for row in self.rows if row[0] == "begin"]
        _, name, keys = begins[number]
        letters, steps = self.dealings[name]
        stands_for = {letter: key for (letter, _), key in zip(letters, keys)}
        return [(deed, stands_for[letter]) for deed, letter in steps]

    def many(self):
        return len([row for row in self.rows if row[0] == "begin"])

    def when(self, word, number):
        """The place of the row of this word for the number, or None."""
        if word == "begin":
            return [at for at, row in enumerate(self.rows) if row[0] == "begin"][number]
        found = [at for at, row in enumerate(self.rows) if row == (word, number)]
        return found[0] if found else None

    def done(self, number, ahead_of=None):
        rows = self.rows if ahead_of is None else self.rows[:ahead_of]
        return self.steps_of(number)[:rows.count(("step", number))]

    def left(self, number):
        return len(self.steps_of(number)) - len(self.done(number))

    def written(self, number, ahead_of=None):
        return {key for deed, key in self.done(number, ahead_of) if deed in ("write", "ask")}

    def stands(self, number):
        """Ended, and none that wrote one of its keys ended, and stood, between its begin and its end."""
        end = self.when("end", number)
        if end is None:
            return False
        begin = self.when("begin", number)
        between = [row[1] for row in self.rows[begin:end] if row[0] == "end"]
        return not any(self.stands(other) and self.written(other) & self.written(number) for other in between)

    def state(self, number):
        if self.when("drop", number) is not None:
            return "off"
        if self.when("end", number) is None:
            return "open"
        return "stands" if self.stands(number) else "off"

    def last_writer(self, key, ahead_of):
        for row in reversed(self.rows[:ahead_of]):
            if row[0] == "end" and self.stands(row[1]) and key in self.written(row[1]):
                return row[1]
        return None

    def writer(self, key):
        return self.last_writer(key, len(self.rows))

    def fresh(self, name):
        begun = [key for row in self.rows if row[0] == "begin" for key in row[2]]
        above = {kind: max([number for own, number in begun if own == kind] or [-1]) for kind in self.kinds}
        keys = []
        for _, kind in self.dealings[name][0]:
            above[kind] += 1
            keys.append((kind, above[kind] if self.kinds[kind] else 0))
        return keys

    def begin(self, name, keys=None):
        self.rows.append(("begin", name, keys if keys is not None else self.fresh(name)))
        return self.many() - 1

    def step(self, number):
        deed, key = self.steps_of(number)[len(self.done(number))]
        if deed == "write":
            seen = None
        elif key in self.written(number):
            seen = number
        else:
            seen = self.last_writer(key, self.when("begin", number))
        self.rows.append(("step", number))
        return (deed, key, seen)

    def end(self, number):
        self.rows.append(("end", number))
        return self.stands(number)

    def drop(self, number):
        self.rows.append(("drop", number))

    def undo(self):
        self.rows.pop()
