"""Trees with standings, told otherwise here and there, and what is the same in all of them."""

import random

from netsbyhand import levels_by_ways, some_standing


def random_tree(source, most_balances=8, most_levels=5, names="abc"):
    """A tree: each balance but 0 is led to by just one pan."""
    while True:
        many = source.randint(1, most_balances)
        few = source.sample(names, source.randint(1, len(names)))
        net = [[source.choice(few), source.choice(few)] for _ in range(many)]
        for balance in range(1, many):
            free = [(at, pan) for at in range(balance) for pan in (0, 1) if isinstance(net[at][pan], str)]
            at, pan = source.choice(free)
            net[at][pan] = balance
        told = tuple(tuple(pair) for pair in net)
        if max(levels_by_ways(told)) + 1 <= most_levels:
            return told


def random_standing_tree(source, size=9, **most):
    net = random_tree(source, **most)
    return net, some_standing(source, net, size)


def some_standing_trees(seed, many, **most):
    source = random.Random(seed)
    return [random_standing_tree(source, **most) for _ in range(many)]


def branch_of(net, standing, lead=0):
    """A name, or [standing, left branch, right branch], nothing of it taken out or crossed."""
    if isinstance(lead, str):
        return lead
    left, right = net[lead]
    return [standing[lead], branch_of(net, standing, left), branch_of(net, standing, right)]


def told_in_some_order(source, branch):
    """The net and standing of a branch, its balances numbered anyhow that leads further on."""
    pairs, standings, waiting = [], [], [(branch, None)]
    while waiting:
        now, place = waiting.pop(source.randrange(len(waiting)) if source else 0)
        balance = len(pairs)
        pairs.append(list(now[1:]))
        standings.append(now[0])
        if place:
            pairs[place[0]][place[1]] = balance
        behind = [(now[pan + 1], (balance, pan)) for pan in (0, 1) if not isinstance(now[pan + 1], str)]
        waiting = behind + waiting
    return tuple(map(tuple, pairs)), tuple(standings)


def crossed_here_and_there(source, branch):
    if isinstance(branch, str):
        return branch
    standing, left, right = branch
    left, right = crossed_here_and_there(source, left), crossed_here_and_there(source, right)
    return [standing, left, right] if source.random() < 0.5 else [-standing, right, left]


def with_needless(source, branch):
    """The branch with an exit in it become a balance, or two, whose pans all lead there."""
    if isinstance(branch, str):
        odd = source.choice((1, -1, 3, -7, 99))
        if source.random() < 0.3:
            return [odd, branch, [-odd, branch, branch]]
        return [odd, branch, branch]
    standing, left, right = branch
    if source.random() < 0.5:
        return [standing, with_needless(source, left), right]
    return [standing, left, with_needless(source, right)]


def told_otherwise(source, net, standing):
    """A tree that must have the same face: numbered, crossed otherwise, with needless balances put in."""
    branch = branch_of(net, standing)
    for _ in range(source.choice((0, 0, 1, 2))):
        branch = with_needless(source, branch)
    return told_in_some_order(source, crossed_here_and_there(source, branch))


def face_by_hand(net, standing):
    """The face, told from the branch: taken out, crossed, and numbered as they are written."""
    def plain(branch):
        if isinstance(branch, str):
            return branch
        now, left, right = branch[0], plain(branch[1]), plain(branch[2])
        if isinstance(left, str) and left == right:
            return left
        return [now, left, right] if now < 0 else [-now, right, left]

    branch = plain(branch_of(net, standing))
    if isinstance(branch, str):
        return ((branch, branch),), (-abs(standing[0]),)
    return told_in_some_order(None, branch)


def lone_exit(net):
    """The exit of a tree with one exit alone, else None."""
    names = {lead for pair in net for lead in pair if isinstance(lead, str)}
    return names.pop() if len(names) == 1 else None
