"""Rows of grains that make all starts one but for the side, and rows whose sides tell the start."""

from panfalls.falls import ahead_of, is_word
from panfalls.runs import behind, folded, spots
from panfalls.words import LEFT


def halving_weight(run):
    """The weight by which half the spots of the run, if odd the lesser half, are below."""
    below = spots(run) // 2
    return (run[0] - 1 + 2 * below) // 2


def reset(run):
    """The word of as few grains as can be that makes one spot of the run."""
    word = []
    now = run
    while spots(now) > 1:
        weight = halving_weight(now)
        word.append(weight)
        now = folded(now, weight)
    return tuple(word)


def fewest(run):
    """How many grains it takes: the least n such that 2 to the n is not below the number of spots."""
    return (spots(run) - 1).bit_length()


def shows_reset(run, thing):
    """Whether thing is a word that makes one spot of the run."""
    return is_word(thing) and spots(behind(run, thing)) == 1


def telling(most):
    """The word whose sides tell each start of a size below 2 * most."""
    return reset((1, 2 * most - 1)) + (1,)


def gone_back(standing, sides, word):
    """The standing from which the word fell to these sides and left this one, or None."""
    now = standing
    for side, weight in zip(sides[::-1], word[::-1]):
        now = ahead_of(now, side, weight)
        if now is None:
            return None
    return now


def told_start(most, sides):
    """The standing of a size below 2 * most from which falls by telling have these sides, or None."""
    word = telling(most)
    if len(sides) != len(word):
        return None
    # The grains ahead of the last one leave size 1, so the last side tells which of the two it was.
    last = -1 if sides[-1] == LEFT else 1
    # What a weight of reset folds into a run comes of the run ahead alone, so no greater size is gone back to.
    return gone_back(last, sides[:-1], word[:-1])
