"""How a word that comes again and again leaves a balance.

Bare words are handed to length alone: the others want a greatest weight.
"""

from panfalls.falls import falls
from panfalls.runs import behind


def runs_to(word):
    """The list of runs from all sizes below twice the greatest weight to the staying run."""
    now = (1, 2 * max(word) - 1)
    told = [now]
    made = behind(now, word)
    # Each run is within the one ahead, so there is one that stays.
    while made != now:
        told.append(made)
        now = made
        made = behind(now, word)
    return told


def staying(word):
    return runs_to(word)[-1]


def rounds_to(word):
    """How many rounds make the staying run."""
    return len(runs_to(word)) - 1


def length(word):
    """Behind how many rounds a standing whose size is in the staying run is itself again."""
    if not word:
        return 1
    # All standings of the staying run on one side of 0 are moved alike, so one of them tells.
    start = staying(word)[0]
    if falls(start, word)[1] == start:
        return 1
    return 2
