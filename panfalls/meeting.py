"""Two starts at one balance, a word coming again and again: whether they become one, or mirrored."""

from panfalls.settling import settled_from, standing_at
from panfalls.staying import staying


def have_met(one, other, word, many):
    """Whether the two are of one size behind so many grains; then they are for good."""
    return abs(standing_at(one, word, many)) == abs(standing_at(other, word, many))


def both_settled(one, other, word):
    """From which round on both come back."""
    return max(settled_from(one, word), settled_from(other, word))


def fewest_grains(one, other, word, enough):
    """Behind how many grains the two have met, the fewest, where they have behind enough."""
    low = 0
    high = enough
    # Once met they stay so, so halving finds the first time.
    while low < high:
        middle = (low + high) // 2
        if have_met(one, other, word, middle):
            high = middle
        else:
            low = middle + 1
    return low


def meeting(one, other, word):
    """("one", many) or ("mirrored", many), many being the fewest grains, or ("apart",)."""
    # In the staying run no grain parts two sizes, so behind settling they don't meet any more.
    enough = both_settled(one, other, word) * len(word)
    if not have_met(one, other, word, enough):
        return ("apart",)
    many = fewest_grains(one, other, word, enough)
    if standing_at(one, word, many) == standing_at(other, word, many):
        return ("one", many)
    return ("mirrored", many)


def apart_paper(one, other, word):
    """A pair (rounds, run) that shows the two to be apart, or None."""
    if meeting(one, other, word) != ("apart",):
        return None
    if not word:
        sizes = sorted([abs(one), abs(other)])
        return (0, (sizes[0], sizes[1]))
    return (both_settled(one, other, word), staying(word))
