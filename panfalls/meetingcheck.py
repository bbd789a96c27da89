"""Looks at what is said to show that two starts never become one, or mirrored."""

from panfalls.kinds import is_number, is_pair
from panfalls.runs import is_run, is_size_in, stays_whole
from panfalls.settling import standing_at

MOST_ROUNDS = 10 ** 9


def is_paper(thing):
    if not is_pair(thing):
        return False
    rounds, run = thing
    return is_number(rounds) and 0 <= rounds <= MOST_ROUNDS and is_run(run)


def shows_apart(one, other, word, thing):
    """Whether thing is a pair (rounds, run) that shows the two starts to be apart for good."""
    if not is_paper(thing):
        return False
    rounds, run = thing
    # Unlike sizes in such a run stay unlike, and in it, round by round.
    if not stays_whole(run, word):
        return False
    many = rounds * len(word)
    first = standing_at(one, word, many)
    second = standing_at(other, word, many)
    return abs(first) != abs(second) and is_size_in(first, run) and is_size_in(second, run)
