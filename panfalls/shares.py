"""Which share of all pounds each exit of a net gets, and how far it's off that at most.

A fraction is a pair (top, bottom), bottom 1 or more, in lowest terms.
"""

from panfalls.nets import passed_down, two_to_depth


def lowest(top, bottom):
    """The fraction of a top and a bottom that may have divisors in common."""
    divisor = abs(top)
    rest = bottom
    while rest:
        divisor, rest = rest, divisor % rest
    return (top // divisor, bottom // divisor)


def fractions_of(pairs, bottom):
    return [(name, lowest(top, bottom)) for name, top in pairs]


def shares(net):
    """The rising list of pairs (NAME, fraction) of the exits' shares."""
    # A way halves a share at each level once at most, so tops over this bottom stay whole.
    bottom = two_to_depth(net)
    return fractions_of(passed_down(net, bottom, lambda balance, top: (top // 2, top // 2)), bottom)


def off_bounds(net):
    """The rising list of pairs (NAME, fraction): how many greatest weights an exit is off its share at most."""
    bottom = two_to_depth(net)

    def of_pans(balance, top):
        half_and_more = (top + bottom) // 2
        return (half_and_more, half_and_more)

    return fractions_of(passed_down(net, 0, of_pans), bottom)
