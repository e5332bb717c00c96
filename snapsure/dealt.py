"""What each dealing of a run did."""

from snapsure.runs import replayed
from snapsure.spans import Span, spans_in


class Dealt:
    """One dealing of a run: its number, name, keys and span; its steps as told; whether it stands."""

    def __init__(self, number, name, own_keys, span):
        self.number = number
        self.name = name
        self.own_keys = own_keys
        self.span = span
        self.steps = []
        self.stands = False

    def reads(self):
        """Tell (key, seen) of each reading step, in order."""
        return [(key, seen) for deed, key, seen in self.steps if deed != "write"]

    def written(self):
        """Tell the key of each writing step, in order."""
        return [key for deed, key, _ in self.steps if deed != "read"]


def dealt_in(book, run):
    """Tell what each dealing of the run did, by number; NoRun of what is no run, of anything."""
    told = replayed(book, run)
    begins = [row for row in run if row[0] == "begin"]
    dealt = []
    for number, (row, span) in enumerate(zip(begins, spans_in(run))):
        dealt.append(Dealt(number, row[1], [(kind, at) for kind, at in row[2]], span))
    for row, answer in zip(run, told):
        if row[0] == "step":
            dealt[row[1]].steps.append(answer)
        elif row[0] == "end":
            dealt[row[1]].stands = answer
    return dealt


def dealt_till(begun, last):
    """Tell what a begun dealing of a stepper did, as one that stands, its end being the row of this number."""
    one = Dealt(begun.number, begun.name, begun.own_keys, Span(begun.begun_at, last))
    one.steps.extend(begun.told)
    one.stands = True
    return one


def those_standing(dealt):
    """Tell those of a run's dealings that stand, by number."""
    return [one for one in dealt if one.stands]
