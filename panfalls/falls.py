"""Grains that fall at one balance, one by one.

A standing is an odd number: the left pan less the right one, in half pounds.
A weight is a number from 1, a word a tuple of weights.
"""

from panfalls.kinds import is_number
from panfalls.words import LEFT, RIGHT


def is_standing(thing):
    return is_number(thing) and thing % 2 == 1


def is_word(thing):
    return isinstance(thing, tuple) and all([is_number(part) and part >= 1 for part in thing])


def lighter(standing):
    if standing < 0:
        return LEFT
    return RIGHT


def fall(standing, weight):
    """The pair of the side to which a grain falls and the standing that it leaves."""
    # A pound is two half pounds, in which standings are told.
    if lighter(standing) == LEFT:
        return (LEFT, standing + 2 * weight)
    return (RIGHT, standing - 2 * weight)


def falls(standing, word):
    """The pair of the list of sides and the standing that the last grain leaves."""
    sides = []
    now = standing
    for weight in word:
        side, now = fall(now, weight)
        sides.append(side)
    return (sides, now)


def pounds(standing, word):
    """The pair of the pounds that fell left and right."""
    sides = falls(standing, word)[0]
    left = sum([weight for side, weight in zip(sides, word) if side == LEFT])
    return (left, sum(word) - left)


def pounds_between(before, after, fallen):
    """The pair of the pounds left and right, of all that fell from one standing to another."""
    # A pound to the left makes a standing two half pounds more, one to the right as much less.
    more_left = (after - before) // 2
    left = (fallen + more_left) // 2
    return (left, fallen - left)


def ahead_of(standing, side, weight):
    """The standing from which the weight fell to that side and left this one, or None."""
    if side == LEFT:
        before = standing - 2 * weight
    else:
        before = standing + 2 * weight
    if lighter(before) == side:
        return before
    return None
