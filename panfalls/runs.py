"""Runs of sizes, and what grains make of them.

A run is a pair (first, last) of odd numbers from 1, the first not above the
last: all odd sizes of standings from first to last.
"""

from panfalls.falls import is_standing, is_word
from panfalls.kinds import is_pair


def is_run(thing):
    if not is_pair(thing):
        return False
    first, last = thing
    return is_standing(first) and is_standing(last) and 1 <= first <= last


def spots(run):
    """How many sizes are in the run."""
    first, last = run
    return (last - first) // 2 + 1


def parts(run, weight):
    """Whether some sizes of the run are above 2 * weight and some below."""
    first, last = run
    return first < 2 * weight < last


def folded(run, weight):
    """The run of the sizes that those of the run have behind such a grain."""
    first, last = run
    fold = 2 * weight
    if parts(run, weight):
        # The sizes beside the fold both become 1, so the two parts lie one upon the other.
        return (1, max(fold - first, last - fold))
    if fold < first:
        return (first - fold, last - fold)
    return (fold - last, fold - first)


def behind(run, word):
    """The run that the grains of the word make of the run, one behind the other."""
    now = run
    for weight in word:
        now = folded(now, weight)
    return now


def is_whole(run, word):
    """Whether no grain of the word parts what the ones ahead made of the run."""
    # What is_.. is asked of last may be anything: what is no word leaves nothing whole.
    if not is_word(word):
        return False
    now = run
    for weight in word:
        if parts(now, weight):
            return False
        now = folded(now, weight)
    return True


def stays_whole(run, word):
    """Whether the run is whole by the word, and is what the word makes of it."""
    return is_whole(run, word) and behind(run, word) == run


def is_within(inner, outer):
    """Whether all sizes of the inner run are in the outer one."""
    return outer[0] <= inner[0] and inner[1] <= outer[1]


def is_size_in(standing, run):
    size = abs(standing)
    return is_within((size, size), run)
