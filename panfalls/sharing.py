"""Trees of told shares: how many balances they take at least, and one that takes no more.

SHARES are a tuple of pairs (NAME, fraction), NAMEs rising, the fractions above
0, bottoms powers of two, together 1.
"""

from panfalls.kinds import is_name, is_number, is_pair
from panfalls.shares import lowest


def is_fraction_of_halves(thing):
    """Whether thing is a fraction above 0 whose bottom is a power of two."""
    if not is_pair(thing):
        return False
    top, bottom = thing
    if not is_number(top) or not is_number(bottom) or top < 1 or bottom < 1:
        return False
    return bottom & (bottom - 1) == 0 and lowest(top, bottom) == thing


def is_share(thing):
    if not is_pair(thing):
        return False
    name, fraction = thing
    return is_name(name) and is_fraction_of_halves(fraction)


def greatest_bottom(shares):
    return max([bottom for name, (top, bottom) in shares])


def parts_of(shares, whole):
    """The list of pairs (NAME, parts), in parts of the whole, which all bottoms divide."""
    return [(name, top * (whole // bottom)) for name, (top, bottom) in shares]


def is_shares(thing):
    if not isinstance(thing, tuple) or len(thing) < 2 or not all([is_share(part) for part in thing]):
        return False
    names = [name for name, fraction in thing]
    if names != sorted(set(names)):
        return False
    whole = greatest_bottom(thing)
    return sum([parts for name, parts in parts_of(thing, whole)]) == whole


def fewest_balances(shares):
    """How many balances a tree with these shares has at least."""
    # Each one is a pan that leads out, and a tree has one balance fewer than such pans.
    return sum([f"{top:b}".count("1") for name, (top, bottom) in shares]) - 1


def tree_of(shares):
    """A tree of as few balances as can be that has these shares."""
    whole = greatest_bottom(shares)
    parts = parts_of(shares, whole)
    net = []
    balances = 1
    of_pan = whole // 2
    # Level by level: of the pans those lead out whose share some exit's figures have, the others further on.
    while balances:
        leads = [name for name, many in parts if many & of_pan]
        pans = 2 * balances
        further = len(net) + balances
        balances = pans - len(leads)
        leads += list(range(further, further + balances))
        net += list(zip(leads[::2], leads[1::2]))
        of_pan //= 2
    return tuple(net)
