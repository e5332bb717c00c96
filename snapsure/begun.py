"""A begun dealing, as a stepper keeps it."""


class Begun:
    """Its number, name, keys and steps (deed, key); what each done step told; when it began and ended.

    Moments are told by how many deeds a stepper had done ahead of them, so they are also the numbers of the rows of
    these deeds.
    """

    def __init__(self, number, name, own_keys, steps, begun_at):
        self.number = number
        self.name = name
        self.own_keys = own_keys
        self.steps = steps
        self.begun_at = begun_at
        self.told = []
        self.word = "open"
        self.reason = None
        self.ended_at = None

    def copied(self):
        """Tell another one that is the same and goes on by itself."""
        other = Begun(self.number, self.name, list(self.own_keys), list(self.steps), self.begun_at)
        other.told = list(self.told)
        other.word = self.word
        other.reason = self.reason
        other.ended_at = self.ended_at
        return other

    def left(self):
        """Tell how many steps it has left."""
        return len(self.steps) - len(self.told)

    def wrote(self, key):
        """Tell whether it wrote, or asked, the key in the steps it has done."""
        return any([deed != "read" and own == key for deed, own, _ in self.told])

    def wrote_with(self, other):
        """Tell whether both wrote one key."""
        return any([self.wrote(key) and other.wrote(key) for key in self.own_keys])

    def stood_ahead(self, moment):
        """Tell whether it stands, and ended ahead of the moment."""
        return self.word == "stands" and self.ended_at < moment

    def stood_since(self, moment):
        """Tell whether it stands, and ended behind the moment."""
        return self.word == "stands" and self.ended_at > moment

    def close(self, why, moment):
        """End it, or drop it, at a moment: it stands where nothing tells why not."""
        self.word = "stands" if why is None else "off"
        self.reason = why
        self.ended_at = moment

    def reopen(self):
        """Undo its end, or that it was dropped."""
        self.word = "open"
        self.reason = None
        self.ended_at = None
