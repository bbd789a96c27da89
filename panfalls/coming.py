"""A word, not bare, that comes again and again to a net: when it comes round, and far grains."""

from panfalls.falls import pounds_between
from panfalls.netfalls import falls_of, way_of
from panfalls.nets import passed_down, two_to_depth
from panfalls.settling import fallen_pounds


def bound(net, word):
    """The pair (from, rounds) by which any net of small sizes has come round."""
    rounds = two_to_depth(net)
    return ((max(word) - 1) * (rounds - 1), rounds)


def starts_of_rounds(net, standing, word, most):
    """The numbers of rounds by the standings at their beginnings, and the standing behind these rounds.

    They end where a standing comes again, or with so many rounds; None: no matter how many.
    """
    numbers = {}
    now = standing
    while now not in numbers and len(numbers) != most:
        numbers[now] = len(numbers)
        now = falls_of(net, now, word)[1]
    return (numbers, now)


def comes_round(net, standing, word):
    """The least pair (from, rounds): from when on the net is back behind how many rounds."""
    numbers, again = starts_of_rounds(net, standing, word, None)
    first = numbers[again]
    return (first, len(numbers) - first)


def start_of_round(net, standing, word, rounds):
    """The standing behind so many rounds."""
    numbers, now = starts_of_rounds(net, standing, word, rounds)
    left = rounds - len(numbers)
    if left == 0:
        return now
    first = numbers[now]
    return list(numbers)[first + left % (len(numbers) - first)]


def standing_behind(net, standing, word, many):
    """The net's standing behind so many grains."""
    rounds, rest = divmod(many, len(word))
    return falls_of(net, start_of_round(net, standing, word, rounds), word[:rest])[1]


def exit_at(net, standing, word, number):
    """Where the grain of that number comes out."""
    now = standing_behind(net, standing, word, number)
    return way_of(net, now, word[number % len(word)])[1]


def pounds_passed(net, before, after, fallen):
    """The rising list of pairs (NAME, pounds) of all that fell from one standing to another, of all exits."""
    return passed_down(net, fallen, lambda balance, came: pounds_between(before[balance], after[balance], came))


def pounds_out(net, standing, word, many):
    """The rising list of pairs (NAME, pounds) of the first so many grains, of all exits."""
    after = standing_behind(net, standing, word, many)
    return pounds_passed(net, standing, after, fallen_pounds(word, many))
