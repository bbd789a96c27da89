"""A works: a net and its standing that are kept over deeds, which can be undone.

A state is a triple (net, standing, gone): gone is a dict of the pounds, more
than none, that went out at each exit. A state isn't changed once it's made:
each deed makes one of the last one, so going back is to drop those behind.
"""

from panfalls.coming import pounds_passed, standing_behind
from panfalls.errors import Deep, Many, NoBalance, NoDeed, NoExit
from panfalls.faces import crossed, without
from panfalls.kinds import is_number
from panfalls.netfalls import way_of
from panfalls.nets import begun, depth, exits, with_leads, with_part
from panfalls.settling import fallen_pounds
from panfalls.shares import lowest, shares
from panfalls.words import LEFT

MOST_BALANCES = 8
MOST_LEVELS = 5


def with_gone(gone, out):
    """The pounds by exit with these pairs (NAME, pounds) more."""
    more = dict(gone)
    for name, pounds in out:
        if pounds > 0:
            more[name] = more.get(name, 0) + pounds
    return more


def refuse_no_balance(net, balance):
    if not 0 <= balance < len(net):
        raise NoBalance(balance)


def dropped(state, weight):
    """The pair of the exit of a grain and the state that it leaves."""
    net, standing, gone = state
    pans, name, after = way_of(net, standing, weight)
    return (name, (net, after, with_gone(gone, [(name, weight)])))


def rowed(state, word, rounds):
    """The pair of what goes out by so many rounds of the word and the state that they leave."""
    net, standing, gone = state
    many = rounds * len(word)
    after = standing_behind(net, standing, word, many)
    out = pounds_passed(net, standing, after, fallen_pounds(word, many))
    return (out, (net, after, with_gone(gone, out)))


def laid(state, pan, pounds):
    net, standing, gone = state
    balance, side = pan
    refuse_no_balance(net, balance)
    # Standings are told in half pounds.
    more = 2 * pounds if side == LEFT else -2 * pounds
    return (None, (net, with_part(standing, balance, standing[balance] + more), gone))


def crossed_over(state, balance):
    net, standing, gone = state
    refuse_no_balance(net, balance)
    new_net, after = crossed(net, standing, balance)
    return (None, (new_net, after, gone))


def taken(state, balance):
    net, standing, gone = state
    refuse_no_balance(net, balance)
    new_net, after = without(net, standing, balance)
    return (None, (new_net, after, gone))


def joined(net, name, hung):
    """The net with another one hung in the place of that exit."""
    first = len(net)
    pairs = with_leads(net, lambda lead: first if lead == name else lead)
    pairs += with_leads(hung, lambda lead: first + lead if is_number(lead) else lead)
    return tuple(pairs)


def hung_in(state, name, hung):
    net, standing, gone = state
    if name not in exits(net):
        raise NoExit(name)
    new_net = joined(net, name, hung)
    if len(new_net) > MOST_BALANCES:
        raise Many(len(new_net))
    deep = depth(new_net)
    if deep > MOST_LEVELS:
        raise Deep(deep)
    return (None, (new_net, standing + begun(hung), gone))


class Works:
    """A net that is kept over deeds: what it is like now, what went out, and the way back."""

    def __init__(self, net, *, standing=None):
        first = begun(net) if standing is None else standing
        self.states = [(net, first, {})]
        self.entries = []

    def perform(self, word, deed):
        """Does a deed: a function of the state, that tells a pair of what is told and the next state."""
        self.entries.append(("in", word))
        try:
            told, state = deed(self.states[-1])
            self.states.append(state)
            return told
        finally:
            # A refused deed ends, too.
            self.entries.append(("out", word))

    def drop(self, weight):
        """Lets a grain fall in, and tells its exit."""
        return self.perform("drop", lambda state: dropped(state, weight))

    def row(self, word, rounds=1):
        """Lets a word fall in so many times, and tells the rising list of (NAME, pounds) that went out."""
        return self.perform("row", lambda state: rowed(state, word, rounds))

    def lay(self, pan, pounds):
        """Lays pounds on a pan by hand."""
        return self.perform("lay", lambda state: laid(state, pan, pounds))

    def cross(self, balance):
        """Exchanges a balance's leads, its standing to the other side of 0."""
        return self.perform("cross", lambda state: crossed_over(state, balance))

    def take(self, balance):
        """Takes a needless balance out."""
        return self.perform("take", lambda state: taken(state, balance))

    def hang(self, name, net):
        """Hangs a net in the place of an exit."""
        return self.perform("hang", lambda state: hung_in(state, name, net))

    def undo(self):
        """Makes the last deed that stands as if it hadn't been; tells whether there was one."""
        self.entries.append(("in", "undo"))
        stood = self.deeds() > 0
        if stood:
            self.states.pop()
        self.entries.append(("out", "undo"))
        return stood

    def net(self):
        return self.states[-1][0]

    def standing(self):
        return self.states[-1][1]

    def gone(self):
        """A dict of the pounds, more than none, that went out at each exit."""
        return dict(self.states[-1][2])

    def came(self):
        """How many pounds fell in."""
        # Each grain that falls in goes out.
        return sum(self.gone().values())

    def out(self):
        """The rising list of (NAME, pounds) of the exits, and of those that were, if pounds went out there."""
        gone = self.gone()
        names = sorted(set(exits(self.net())) | set(gone))
        return [(name, gone.get(name, 0)) for name in names]

    def off(self, name):
        """The fraction by which what went out at an exit is more than its share of all that came."""
        share = dict(shares(self.net())).get(name)
        if share is None:
            raise NoExit(name)
        top, bottom = share
        return lowest(self.gone().get(name, 0) * bottom - self.came() * top, bottom)

    def deeds(self):
        """How many deeds stand."""
        return len(self.states) - 1

    def as_of(self, many):
        """A works of its own as this one was behind so many of the deeds that stand."""
        if not 0 <= many <= self.deeds():
            raise NoDeed(many)
        other = Works(self.net())
        other.states = self.states[:many + 1]
        return other

    def twin(self):
        """A works of its own as this one is."""
        return self.as_of(self.deeds())

    def log(self):
        """The list of ("in", word) and ("out", word) of all deeds, refused ones and undo among them."""
        return list(self.entries)

    def __eq__(self, other):
        if not isinstance(other, Works):
            return False
        return self.net() == other.net() and self.standing() == other.standing() and self.out() == other.out()

    def __len__(self):
        return len(self.net())
