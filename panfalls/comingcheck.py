"""Looks at what is said to be a round from which on a net comes back, and behind how many."""

from panfalls.coming import start_of_round
from panfalls.kinds import is_number, is_pair

MOST_FROM = 10 ** 5
MOST_ROUNDS = 64


def is_round_paper(thing):
    if not is_pair(thing):
        return False
    first, rounds = thing
    if not is_number(first) or not is_number(rounds):
        return False
    return 0 <= first <= MOST_FROM and 1 <= rounds <= MOST_ROUNDS


def shows_round(net, standing, word, thing):
    """Whether thing is a pair (from, rounds) such that the standing of round from is that of rounds later."""
    if not is_round_paper(thing):
        return False
    first, rounds = thing
    start = start_of_round(net, standing, word, first)
    return start_of_round(net, start, word, rounds) == start
