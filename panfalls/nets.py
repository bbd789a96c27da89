"""Nets of balances.

A net is a tuple of pairs (left, right) of leads, one for each balance: a lead
is the number of a balance further on, or the NAME of an exit.
"""

from panfalls.falls import is_standing
from panfalls.kinds import is_name, is_number, is_pair
from panfalls.words import LEFT


def balances_led_to(net):
    """The numbers of the balances that pans lead to, one for each such pan."""
    return [lead for pair in net for lead in pair if is_number(lead)]


def is_lead(thing, balance):
    """Whether thing is a NAME or a number further on than that balance's."""
    if is_number(thing):
        return thing > balance
    return is_name(thing)


def has_right_leads(pairs):
    return all([is_lead(lead, balance) for balance, pair in enumerate(pairs) for lead in pair])


def is_net(thing):
    if not isinstance(thing, tuple) or not thing:
        return False
    if not all([is_pair(part) for part in thing]) or not has_right_leads(thing):
        return False
    # No balance but 0 may be left out, and none may be beyond the last one.
    return sorted(set(balances_led_to(thing))) == list(range(1, len(thing)))


def lead_of(net, pan):
    balance, side = pan
    left, right = net[balance]
    return left if side == LEFT else right


def exits(net):
    """The rising list of the NAMEs of all exits."""
    return sorted({lead for pair in net for lead in pair if is_name(lead)})


def levels(net):
    """The list, for each balance, of the most balances ahead of it on a way from balance 0."""
    told = [0] * len(net)
    for balance, pair in enumerate(net):
        for lead in pair:
            if is_number(lead):
                told[lead] = max(told[lead], told[balance] + 1)
    return told


def depth(net):
    """How many levels there are."""
    return max(levels(net)) + 1


def two_to_depth(net):
    power = 1
    for level in range(depth(net)):
        power *= 2
    return power


def is_tree(net):
    """Whether each balance but balance 0 is led to by just one pan."""
    # What is_.. is asked of last may be anything: what is no net is no tree.
    return is_net(net) and sorted(balances_led_to(net)) == list(range(1, len(net)))


def begun(net):
    """The standing of the net at first."""
    return tuple([-1 for pair in net])


def is_standing_of(net, thing):
    if not isinstance(thing, tuple) or len(thing) != len(net):
        return False
    return all([is_standing(part) for part in thing])


def with_part(parts, at, part):
    """The tuple with another part at that place."""
    return parts[:at] + (part,) + parts[at + 1:]


def with_leads(net, change):
    """The list of the net's pairs, each lead being what change tells of it."""
    return [(change(left), change(right)) for left, right in net]


def passed_down(net, first, split):
    """The rising list of pairs of an exit and the sum of what the pans that lead to it pass on.

    Balance 0 has first, any other one the sum of what comes to it; split is asked of a
    balance and what it has, and tells the pair of what its left and its right pan pass on.
    """
    has = {lead: 0 for pair in net for lead in pair}
    has[0] = first
    # All that leads to a balance stands ahead of it, so it has its whole sum when its turn comes.
    for balance, pair in enumerate(net):
        left, right = split(balance, has[balance])
        has[pair[0]] += left
        has[pair[1]] += right
    return [(name, has[name]) for name in exits(net)]
