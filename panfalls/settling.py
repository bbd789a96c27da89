"""A word that comes again and again at one balance, far grains too."""

from panfalls.falls import falls, pounds_between
from panfalls.runs import is_size_in
from panfalls.staying import length, staying


def far_rounds(standing, word):
    """How many rounds fall whole to the side that is lighter at first."""
    return (abs(standing) - 1) // (2 * sum(word))


def drawn_near(standing, word, rounds):
    """The standing behind so many rounds, no more than far_rounds."""
    step = 2 * sum(word) * rounds
    if standing < 0:
        return standing + step
    return standing - step


def settled_from(standing, word):
    """From which round on the standing is that of length(word) rounds later."""
    if not word:
        return 0
    rounds = far_rounds(standing, word)
    now = drawn_near(standing, word, rounds)
    run = staying(word)
    # One round more brings the size below twice the greatest weight; then rounds_to(word) are enough.
    while not is_size_in(now, run):
        now = falls(now, word)[1]
        rounds += 1
    return rounds


def fewer_rounds(standing, word, rounds):
    """The least number of rounds that leaves the standing that so many rounds leave."""
    settled = settled_from(standing, word)
    if rounds <= settled:
        return rounds
    return settled + (rounds - settled) % length(word)


def standing_of_round(standing, word, rounds):
    """The standing behind so many rounds of a word that isn't bare."""
    wanted = fewer_rounds(standing, word, rounds)
    skipped = min(wanted, far_rounds(standing, word))
    now = drawn_near(standing, word, skipped)
    for again in range(wanted - skipped):
        now = falls(now, word)[1]
    return now


def standing_at(standing, word, many):
    """The standing behind so many grains."""
    if not word:
        return standing
    rounds, rest = divmod(many, len(word))
    return falls(standing_of_round(standing, word, rounds), word[:rest])[1]


def fallen_pounds(word, many):
    """The pounds of so many grains of a word that isn't bare, again and again."""
    rounds, rest = divmod(many, len(word))
    return rounds * sum(word) + sum(word[:rest])


def pounds_at(standing, word, many):
    """The pair of the pounds that fell left and right, of so many grains."""
    if not word:
        return (0, 0)
    after = standing_at(standing, word, many)
    return pounds_between(standing, after, fallen_pounds(word, many))
