import random
import unittest
from fractions import Fraction

from byhand import some_words
from netsbyhand import (
    BOTH_TO_BALANCE, BOTH_TO_ONE, CHAIN, NAMED_NETS, NEEDLESS, ONE, TOGETHER, TWO_LEVELS, drop_through, shares_by_ways,
    some_nets,
)
from panfalls.nets import begun
from panfalls.shares import off_bounds, shares

NETS = NAMED_NETS + some_nets(101, 300)


def pair_of(fraction):
    return (fraction.numerator, fraction.denominator)


def off_by_hand(net):
    """The sums of point [13], balance by balance."""
    off = {0: Fraction(0)}
    for balance, pair in enumerate(net):
        for lead in pair:
            off[lead] = off.get(lead, Fraction(0)) + off[balance] / 2 + Fraction(1, 2)
    return {lead: off[lead] for lead in off if isinstance(lead, str)}


class Shares(unittest.TestCase):
    def test_told_by_hand(self):
        self.assertEqual(shares(ONE), [("a", (1, 2)), ("b", (1, 2))])
        self.assertEqual(shares(BOTH_TO_ONE), [("a", (1, 1))])
        self.assertEqual(shares(TWO_LEVELS), [(name, (1, 4)) for name in "abcd"])
        self.assertEqual(shares(TOGETHER), [(name, (1, 4)) for name in "abcd"])
        self.assertEqual(shares(BOTH_TO_BALANCE), [("a", (1, 2)), ("b", (1, 2))])
        self.assertEqual(shares(NEEDLESS), [("a", (1, 2)), ("b", (1, 2))])
        chain = [("a", (1, 2)), ("b", (1, 4)), ("c", (1, 8)), ("d", (1, 16)), ("e", (1, 32)), ("f", (1, 32))]
        self.assertEqual(shares(net=CHAIN), chain)
        self.assertEqual(shares(((1, "b"), ("b", "a"))), [("a", (1, 4)), ("b", (3, 4))])

    def test_beside_all_ways(self):
        for net in NETS:
            told = shares(net)
            self.assertIs(type(told), list)
            expected = [(name, pair_of(share)) for name, share in sorted(shares_by_ways(net).items())]
            self.assertEqual(told, expected, net)

    def test_lowest_terms_and_together_1(self):
        for net in NETS:
            told = shares(net)
            self.assertEqual(sum(Fraction(*share) for name, share in told), 1)
            for name, share in told:
                self.assertIs(type(share), tuple)
                self.assertEqual(pair_of(Fraction(*share)), share)

    def test_told_lists_are_the_askers_own(self):
        for ask in (shares, off_bounds):
            first, second = ask(TOGETHER), ask(TOGETHER)
            self.assertIsNot(first, second)
            first[0] = ("z", (1, 1))
            first.append(("zz", (1, 1)))
            self.assertEqual(ask(TOGETHER), second)


class Off(unittest.TestCase):
    def test_told_by_hand(self):
        self.assertEqual(off_bounds(ONE), [("a", (1, 2)), ("b", (1, 2))])
        self.assertEqual(off_bounds(BOTH_TO_ONE), [("a", (1, 1))])
        self.assertEqual(off_bounds(TWO_LEVELS), [(name, (3, 4)) for name in "abcd"])
        # Balance 3 has 3 / 4 from either pan, so its pans half of 3 / 2 and 1 / 2.
        together = [("a", (3, 4)), ("b", (3, 4)), ("c", (5, 4)), ("d", (5, 4))]
        self.assertEqual(off_bounds(net=TOGETHER), together)
        self.assertEqual(off_bounds(BOTH_TO_BALANCE), [("a", (1, 1)), ("b", (1, 1))])

    def test_beside_the_sums_by_hand(self):
        for net in NETS:
            told = off_bounds(net)
            self.assertIs(type(told), list)
            expected = [(name, pair_of(off)) for name, off in sorted(off_by_hand(net).items())]
            self.assertEqual(told, expected, net)

    def test_no_exit_is_off_by_more_at_any_moment(self):
        source = random.Random(102)
        words = some_words(103, 40) + [(1,), (24,), (24, 1), (1, 24, 24)]
        for net in NETS[:120]:
            share = {name: Fraction(*told) for name, told in shares(net)}
            bound = {name: Fraction(*told) for name, told in off_bounds(net)}
            word = source.choice(words)
            now, came, out = begun(net), 0, {name: 0 for name in share}
            for weight in (word * 40)[:250]:
                pans, name, now = drop_through(net, now, weight)
                came += weight
                out[name] += weight
                for name in out:
                    self.assertLessEqual(abs(out[name] - share[name] * came), bound[name] * max(word))


if __name__ == "__main__":
    unittest.main()
