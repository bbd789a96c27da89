"""Nets, and what comes of grains in them, gone through balance by balance."""

import random
from fractions import Fraction

from byhand import drop_each

ONE = (("a", "b"),)
BOTH_TO_ONE = (("a", "a"),)
TWO_LEVELS = ((1, 2), ("a", "b"), ("c", "d"))
CHAIN = ((1, "a"), (2, "b"), (3, "c"), (4, "d"), ("e", "f"))
TOGETHER = ((1, 2), ("a", 3), (3, "b"), ("c", "d"))
BOTH_TO_BALANCE = ((1, 1), ("a", "b"))
NEEDLESS = ((1, "b"), ("a", "a"))
ALIKE_EXITS = ((1, 2), ("a", "b"), ("b", "a"))
WIDE = ((1, 2), (3, 4), (5, 6), (7, "a"), ("a", "b"), ("c", "d"), ("zz", "a"), ("b", "abcdefgh"))
DEEP = ((1, 2), (3, "out"), (3, 4), (4, 5), (6, "z"), (7, "y"), ("a", "out"), ("z", "z"))
NAMED_NETS = [
    ONE, BOTH_TO_ONE, TWO_LEVELS, CHAIN, TOGETHER, BOTH_TO_BALANCE, NEEDLESS, ALIKE_EXITS, WIDE, DEEP,
]
TREES = [ONE, BOTH_TO_ONE, TWO_LEVELS, CHAIN, NEEDLESS, ALIKE_EXITS, WIDE]


def levels_by_ways(net):
    """The most balances ahead of each one, all ways gone down."""
    most = [0] * len(net)

    def down(balance, ahead):
        most[balance] = max(most[balance], ahead)
        for lead in net[balance]:
            if not isinstance(lead, str):
                down(lead, ahead + 1)

    down(0, 0)
    return most


def ways_out(net):
    """The list of pairs of an exit and its way, for all ways, as lists of pans."""
    ways = []

    def down(balance, way):
        for side, lead in zip(("left", "right"), net[balance]):
            there = way + [(balance, side)]
            if isinstance(lead, str):
                ways.append((lead, there))
            else:
                down(lead, there)

    down(0, [])
    return ways


def shares_by_ways(net):
    told = {}
    for name, way in ways_out(net):
        told[name] = told.get(name, 0) + Fraction(1, 2 ** len(way))
    return told


def drop_through(net, standing, weight):
    """The pans, the exit, and the standing behind one grain."""
    pans, after, lead = [], list(standing), 0
    while not isinstance(lead, str):
        side = "left" if after[lead] < 0 else "right"
        pans.append((lead, side))
        after[lead] = drop_each(after[lead], (weight,))[0]
        lead = net[lead][0 if side == "left" else 1]
    return pans, lead, tuple(after)


def drop_all_through(net, standing, grains):
    """The exits, one for each grain, and the standing behind all."""
    names = []
    for weight in grains:
        _, name, standing = drop_through(net, standing, weight)
        names.append(name)
    return names, standing


def pounds_by_hand(net, names, grains):
    told = {lead: 0 for pair in net for lead in pair if isinstance(lead, str)}
    for name, weight in zip(names, grains):
        told[name] += weight
    return sorted(told.items())


def round_by_round(net, standing, word):
    """The standings at the beginnings of rounds, to the first that comes again, and its number."""
    starts = []
    seen = {}
    while standing not in seen:
        seen[standing] = len(starts)
        starts.append(standing)
        standing = drop_all_through(net, standing, word)[1]
    return starts, seen[standing]


def random_net(source, most_balances=8, most_levels=5):
    """A net of balances further on, each led to; pans lead together, or it's a tree."""
    while True:
        many = source.randint(1, most_balances)
        names = source.sample(["a", "b", "c", "out", "zz", "abcdefgh", "q"], source.randint(1, 7))
        net = [[source.choice(names), source.choice(names)] for _ in range(many)]
        for balance in range(1, many):
            free = [(at, pan) for at in range(balance) for pan in (0, 1) if isinstance(net[at][pan], str)]
            at, pan = source.choice(free)
            net[at][pan] = balance
        for _ in range(source.choice((0, 0, 1, 2, 4))):
            at, pan = source.randrange(many), source.randrange(2)
            if isinstance(net[at][pan], str) and at + 1 < many:
                net[at][pan] = source.randrange(at + 1, many)
        told = tuple(tuple(pair) for pair in net)
        if max(levels_by_ways(told)) + 1 <= most_levels:
            return told


def some_nets(seed, many):
    source = random.Random(seed)
    return [random_net(source) for _ in range(many)]


def some_standing(source, net, size):
    return tuple(source.choice((1, -1)) * (2 * source.randint(0, (size - 1) // 2) + 1) for _ in net)
