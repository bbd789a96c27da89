"""Balances crossed and taken out, and the face that trees which act alike have in common.

A shape is a tree with no needless balance, told without numbers and sides: the
NAME of an exit, or a triple (size, near, far) of a balance's size, the shape
behind its lighter pan and the shape behind the other one.
"""

from panfalls.errors import Lone, Needed
from panfalls.kinds import is_name, is_number
from panfalls.nets import with_leads, with_part


def crossed(net, standing, balance):
    """The pair of net and standing with that balance's leads exchanged, its standing on the other side of 0."""
    left, right = net[balance]
    return (with_part(net, balance, (right, left)), with_part(standing, balance, -standing[balance]))


def is_needless(pair):
    left, right = pair
    return left == right


def needless(net):
    """The rising list of the balances both of whose pans have one lead."""
    return [balance for balance, pair in enumerate(net) if is_needless(pair)]


def without(net, standing, balance):
    """The pair of net and standing where that balance is taken out, its lead in its place."""
    if not is_needless(net[balance]):
        raise Needed(balance)
    instead = net[balance][0]
    if balance == 0 and is_name(instead):
        raise Lone(balance)

    def led_past(lead):
        there = instead if lead == balance else lead
        if is_number(there) and there > balance:
            return there - 1
        return there

    pairs = with_leads(net[:balance] + net[balance + 1:], led_past)
    return (tuple(pairs), standing[:balance] + standing[balance + 1:])


def shape_at(standing, left, right):
    """The shape of a balance that stands so, from those behind its pans."""
    # Two balances that are alike are no needless one's lead: only an exit can be led to twice in a tree.
    if is_name(left) and left == right:
        return left
    if standing < 0:
        return (-standing, left, right)
    return (standing, right, left)


def shape_of(net, standing):
    """The shape of a tree; of one with one exit alone that exit's NAME."""
    shapes = {}
    # All that a balance leads to stands further on, so it's there when the balance's turn comes.
    for balance in reversed(range(len(net))):
        left, right = [shapes.get(lead, lead) for lead in net[balance]]
        shapes[balance] = shape_at(standing[balance], left, right)
    return shapes[0]


def put_behind(shape, pairs, standings):
    """Puts the balances of a shape behind those that are there, and tells the lead to it."""
    if is_name(shape):
        return shape
    size, near, far = shape
    balance = len(pairs)
    # Its place is kept, as it stands ahead of all that is behind its pans.
    pairs.append(None)
    standings.append(-size)
    left = put_behind(near, pairs, standings)
    right = put_behind(far, pairs, standings)
    pairs[balance] = (left, right)
    return balance


def face(net, standing):
    """The pair of net and standing that all trees have which send each row of grains as this one does."""
    shape = shape_of(net, standing)
    if is_name(shape):
        return (((shape, shape),), (-abs(standing[0]),))
    pairs = []
    standings = []
    put_behind(shape, pairs, standings)
    return (tuple(pairs), tuple(standings))
