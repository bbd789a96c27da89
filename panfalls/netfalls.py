"""Grains that fall through a net, in at balance 0 and out at an exit, one by one."""

from panfalls.falls import fall
from panfalls.kinds import is_number
from panfalls.nets import lead_of


def way_of(net, standing, weight):
    """The triple of the list of pans that a grain falls into, its exit, and the standing that it leaves."""
    pans = []
    after = list(standing)
    lead = 0
    while is_number(lead):
        side, after[lead] = fall(after[lead], weight)
        pan = (lead, side)
        pans.append(pan)
        lead = lead_of(net, pan)
    return (pans, lead, tuple(after))


def falls_of(net, standing, word):
    """The pair of the list of exits and the standing that the last grain leaves."""
    names = []
    now = standing
    for weight in word:
        pans, name, now = way_of(net, now, weight)
        names.append(name)
    return (names, now)


def heard(net, standing, word):
    """The list, for each balance, of the word that comes to it."""
    came = [[] for pair in net]
    now = standing
    for weight in word:
        pans, name, now = way_of(net, now, weight)
        for balance, side in pans:
            came[balance].append(weight)
    return [tuple(weights) for weights in came]
