import random
import unittest

from byhand import drop_each
from netsbyhand import (
    BOTH_TO_ONE, NAMED_NETS, ONE, TOGETHER, TWO_LEVELS, drop_all_through, drop_through, some_nets, some_standing,
)
from panfalls.falls import fall, falls
from panfalls.netfalls import falls_of, heard, way_of
from panfalls.nets import begun, lead_of

FAR = 10 ** 12
NETS = NAMED_NETS + some_nets(91, 150)


def cases(seed):
    """Nets, standings and words, near and far."""
    source = random.Random(seed)
    for net in NETS:
        yield net, begun(net), tuple(source.randint(1, 24) for _ in range(12))
        yield net, some_standing(source, net, 401), tuple(source.randint(1, 9) for _ in range(source.randint(0, 60)))
        yield net, some_standing(source, net, FAR + 1), tuple(source.randint(1, FAR) for _ in range(40))


class Way(unittest.TestCase):
    def test_told_by_hand(self):
        self.assertEqual(way_of(ONE, (-1,), 5), ([(0, "left")], "a", (9,)))
        self.assertEqual(way_of(ONE, (1,), 5), ([(0, "right")], "b", (-9,)))
        pans = [(0, "left"), (1, "right"), (3, "left")]
        self.assertEqual(way_of(TOGETHER, (-1, 3, 7, -5), 2), (pans, "c", (3, -1, 7, -1)))
        pans = [(0, "right"), (2, "left"), (3, "right")]
        self.assertEqual(way_of(net=TOGETHER, standing=(1, 3, -7, 5), weight=2), (pans, "d", (-3, 3, -3, 1)))
        self.assertEqual(way_of(weight=2, standing=(1,), net=BOTH_TO_ONE), ([(0, "right")], "a", (-3,)))

    def test_beside_balance_by_balance(self):
        for net, standing, word in cases(92):
            for weight in word[:6]:
                told = way_of(net, standing, weight)
                self.assertEqual(told, drop_through(net, standing, weight))
                self.assertIs(type(told), tuple)
                self.assertIs(type(told[0]), list)
                self.assertIs(type(told[2]), tuple)

    def test_each_pan_is_the_lighter_one_and_leads_on(self):
        for net, standing, word in cases(93):
            for weight in word[:4]:
                pans, name, after = way_of(net, standing, weight)
                self.assertEqual(pans[0][0], 0)
                leads = [lead_of(net, pan) for pan in pans]
                self.assertEqual(leads, [balance for balance, side in pans[1:]] + [name])
                came = dict(pans)
                for balance, now in enumerate(standing):
                    if balance in came:
                        self.assertEqual(fall(now, weight), (came[balance], after[balance]))
                    else:
                        self.assertEqual(after[balance], now)


class Falls(unittest.TestCase):
    def test_told_by_hand(self):
        names = ["a", "c", "b", "d", "a", "c"]
        self.assertEqual(falls_of(TWO_LEVELS, (-1, -1, -1), (1,) * 6), (names, (-1, 1, 1)))
        self.assertEqual(falls_of(net=ONE, standing=(-1,), word=(5, 2, 3)), (["a", "b", "b"], (-1,)))
        self.assertEqual(falls_of(word=(5, 2), standing=(1,), net=ONE), (["b", "a"], (-5,)))

    def test_beside_grain_by_grain(self):
        for net, standing, word in cases(94):
            told = falls_of(net, standing, word)
            self.assertEqual(told, drop_all_through(net, standing, word))
            self.assertIs(type(told), tuple)
            self.assertIs(type(told[0]), list)
            self.assertIs(type(told[1]), tuple)

    def test_bare_word(self):
        for net, standing, word in cases(95):
            self.assertEqual(falls_of(net, standing, ()), ([], standing))
            self.assertEqual(heard(net, standing, ()), [()] * len(net))

    def test_longest_words_and_greatest_weights(self):
        source = random.Random(96)
        for net in NAMED_NETS:
            for word in ((FAR,) * 400, (1,) * 400, (FAR, 1) * 200, tuple(range(1, 401))):
                standing = some_standing(source, net, FAR + 1)
                self.assertEqual(falls_of(net, standing, word), drop_all_through(net, standing, word))
                self.assertEqual(heard(net, standing, word)[0], word)


class Heard(unittest.TestCase):
    def test_told_by_hand(self):
        self.assertEqual(heard(TWO_LEVELS, (-1, -1, -1), (1, 2, 3, 4)), [(1, 2, 3, 4), (1, 3), (2, 4)])
        self.assertEqual(heard(net=ONE, standing=(-1,), word=(5, 2)), [(5, 2)])
        self.assertEqual(heard(word=(5, 2), standing=(-1, -1), net=((1, 1), ("a", "b"))), [(5, 2), (5, 2)])
        self.assertEqual(heard(word=(5,), standing=(1, -1), net=((1, "c"), ("a", "b"))), [(5,), ()])

    def test_beside_grain_by_grain(self):
        for net, standing, word in cases(97):
            came = [() for _ in net]
            now = standing
            for weight in word:
                pans, name, now = drop_through(net, now, weight)
                for balance, side in pans:
                    came[balance] += (weight,)
            told = heard(net, standing, word)
            self.assertEqual(told, came)
            self.assertIs(type(told), list)

    def test_the_words_heard_fall_at_each_balance_alone_as_in_the_net(self):
        for net, standing, word in cases(98):
            after = falls_of(net, standing, word)[1]
            for start, came, end in zip(standing, heard(net, standing, word), after):
                self.assertEqual(falls(start, came)[1], end)
                self.assertEqual(drop_each(start, came)[0], end)


class Kept(unittest.TestCase):
    def test_told_lists_are_the_askers_own(self):
        standing = (-1, 3, 5)
        for ask in (
            lambda: way_of(TWO_LEVELS, standing, 7)[0],
            lambda: falls_of(TWO_LEVELS, standing, (7, 8))[0],
            lambda: falls_of(TWO_LEVELS, standing, ())[0],
            lambda: heard(TWO_LEVELS, standing, (7, 8)),
            lambda: heard(TWO_LEVELS, standing, ()),
        ):
            first, second = ask(), ask()
            self.assertIsNot(first, second)
            self.assertEqual(first, second)
            first.append("other")
            first[0] = "other"
            self.assertEqual(ask(), second)
        self.assertEqual(standing, (-1, 3, 5))


if __name__ == "__main__":
    unittest.main()
