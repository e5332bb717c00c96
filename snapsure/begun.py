"""A begun dealing, as a stepper keeps it."""


class Begun:
    """Its number, name, keys and steps (deed, key); how far it is; when it began and ended.

    Moments are told by how many deeds a stepper had done ahead of them.
    """

    def __init__(self, number, name, own_keys, steps, begun_at):
        self.number = number
        self.name = name
        self.own_keys = own_keys
        self.steps = steps
        self.begun_at = begun_at
        self.done = 0
        self.word = "open"
        self.ended_at = None

    def copied(self):
        """Tell another one that is the same and goes on by itself."""
        other = Begun(self.number, self.name, list(self.own_keys), list(self.steps), self.begun_at)
        other.done = self.done
        other.word = self.word
        other.ended_at = self.ended_at
        return other

    def left(self):
        """Tell how many steps it has left."""
        return len(self.steps) - self.done

    def wrote(self, key):
        """Tell whether it wrote, or asked, the key in the steps it has done."""
        return any([deed != "read" and own == key for deed, own in self.steps[:self.done]])

    def wrote_with(self, other):
        """Tell whether both wrote one key."""
        return any([self.wrote(key) and other.wrote(key) for key in self.own_keys])

    def stood_ahead(self, moment):
        """Tell whether it stands, and ended ahead of the moment."""
        return self.word == "stands" and self.ended_at < moment

    def stood_since(self, moment):
        """Tell whether it stands, and ended behind the moment."""
        return self.word == "stands" and self.ended_at > moment

    def close(self, word, moment):
        """End it, or drop it, at a moment; from then on its state is the word."""
        self.word = word
        self.ended_at = moment

    def reopen(self):
        """Undo its end, or that it was dropped."""
        self.word = "open"
        self.ended_at = None
