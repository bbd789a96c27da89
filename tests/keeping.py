"""A keeping of one's own beside a works: all told by hand, grain by grain, copied deed by deed."""

from fractions import Fraction

from netsbyhand import drop_through, levels_by_ways, shares_by_ways
from panfalls import errors

CLASSES = ("NoBalance", "NoExit", "NoDeed", "Needed", "Lone", "Deep", "Many")


def tried(ask, *given):
    """What is told, or the pair of the name of the refusal's class and its what."""
    try:
        return ask(*given)
    except tuple(getattr(errors, name) for name in CLASSES) as refusal:
        assert vars(refusal) == {"what": refusal.what}
        return (type(refusal).__name__, refusal.what)


def exits_of(net):
    return sorted({lead for pair in net for lead in pair if isinstance(lead, str)})


class Keeping:
    """What a works must tell; a refused deed tells the pair of the class's name and what."""

    def __init__(self, net, standing=None):
        self.now = (net, standing or (-1,) * len(net), 0, {})
        self.past = []
        self.log = []

    def do(self, word, *given):
        self.log += [("in", word), ("out", word)]
        if word == "undo":
            if not self.past:
                return False
            self.now = self.past.pop()
            return True
        refused = self.refused(word, *given)
        if refused:
            return refused
        net, standing, came, gone = self.now
        self.past.append(self.now)
        told, self.now = getattr(self, word)(net, standing, came, dict(gone), *given)
        return told

    def refused(self, word, *given):
        net = self.now[0]
        if word in ("lay", "cross", "take"):
            balance = given[0][0] if word == "lay" else given[0]
            if balance not in range(len(net)):
                return ("NoBalance", balance)
        if word == "take":
            left, right = net[balance]
            if left != right:
                return ("Needed", balance)
            if balance == 0 and isinstance(left, str):
                return ("Lone", balance)
        if word == "hang":
            name, other = given
            if name not in exits_of(net):
                return ("NoExit", name)
            more = self.hung(net, name, other)
            if len(more) > 8:
                return ("Many", len(more))
            levels = max(levels_by_ways(more)) + 1
            if levels > 5:
                return ("Deep", levels)
        return None

    @staticmethod
    def hung(net, name, other):
        many = len(net)
        here = tuple(tuple(many if lead == name else lead for lead in pair) for pair in net)
        there = tuple(tuple(lead if isinstance(lead, str) else lead + many for lead in pair) for pair in other)
        return here + there

    def drop(self, net, standing, came, gone, weight):
        _, name, standing = drop_through(net, standing, weight)
        gone[name] = gone.get(name, 0) + weight
        return name, (net, standing, came + weight, gone)

    def row(self, net, standing, came, gone, word, rounds=1):
        out = {name: 0 for name in exits_of(net)}
        for weight in word * rounds:
            name, (net, standing, came, gone) = self.drop(net, standing, came, gone, weight)
            out[name] += weight
        return sorted(out.items()), (net, standing, came, gone)

    def lay(self, net, standing, came, gone, pan, pounds):
        after = list(standing)
        after[pan[0]] += {"left": 2, "right": -2}[pan[1]] * pounds
        return None, (net, tuple(after), came, gone)

    def cross(self, net, standing, came, gone, balance):
        pairs, after = list(net), list(standing)
        pairs[balance] = pairs[balance][::-1]
        after[balance] = -after[balance]
        return None, (tuple(pairs), tuple(after), came, gone)

    def take(self, net, standing, came, gone, balance):
        instead = net[balance][0]
        pairs = []
        for at, pair in enumerate(net):
            if at != balance:
                leads = [instead if lead == balance else lead for lead in pair]
                pairs.append(tuple(lead if isinstance(lead, str) else lead - (lead > balance) for lead in leads))
        return None, (tuple(pairs), standing[:balance] + standing[balance + 1:], came, gone)

    def hang(self, net, standing, came, gone, name, other):
        return None, (self.hung(net, name, other), standing + (-1,) * len(other), came, gone)

    def net(self):
        return self.now[0]

    def standing(self):
        return self.now[1]

    def came(self):
        return self.now[2]

    def out(self):
        gone = self.now[3]
        names = set(exits_of(self.now[0])) | {name for name in gone if gone[name]}
        return [(name, gone.get(name, 0)) for name in sorted(names)]

    def off(self, name):
        told = self.now[3].get(name, 0) - shares_by_ways(self.now[0])[name] * Fraction(self.now[2])
        return (told.numerator, told.denominator)

    def deeds(self):
        return len(self.past)
