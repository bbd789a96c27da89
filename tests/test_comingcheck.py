import copy
import random
import unittest

from byhand import some_words
from netsbyhand import (
    BOTH_TO_ONE, CHAIN, NAMED_NETS, NEEDLESS, ONE, TOGETHER, TWO_LEVELS, drop_all_through, round_by_round, some_nets,
    some_standing,
)
from panfalls.coming import comes_round
from panfalls.comingcheck import shows_round
from panfalls.nets import begun
from things import ODD_THINGS

NETS = NAMED_NETS + some_nets(121, 40)


def cases(seed):
    source = random.Random(seed)
    words = [(1,), (2,), (24,), (1, 2), (24, 23)] + some_words(seed, 100)
    for net in NETS:
        for size in (1, 47, 401):
            yield net, some_standing(source, net, size), source.choice(words)


class Shown(unittest.TestCase):
    def check(self, expected, net, standing, word, thing):
        self.assertIs(shows_round(net, standing, word, thing), expected, (net, standing, word, thing))

    def test_what_comes_round_tells(self):
        for net, standing, word in cases(122):
            self.check(True, net, standing, word, comes_round(net, standing, word))

    def test_a_later_from(self):
        for net, standing, word in cases(123):
            first, rounds = comes_round(net, standing, word)
            for later in (1, 2, rounds, 77, 1001):
                self.check(True, net, standing, word, (first + later, rounds))
            self.check(True, net, standing, word, (10 ** 5, rounds))

    def test_rounds_a_whole_number_of_times_as_great(self):
        for net, standing, word in cases(124):
            first, rounds = comes_round(net, standing, word)
            for many in range(1, 67):
                fits = many % rounds == 0 and many <= 64
                self.check(fits, net, standing, word, (first, many))
                self.check(fits, net, standing, word, (first + 5, many))

    def test_beside_rounds_gone_through(self):
        told = {True: 0, False: 0}
        for net, standing, word in cases(125):
            first = len(round_by_round(net, standing, word)[0])
            starts, now = [], standing
            for _ in range(min(first, 40) + 70):
                starts.append(now)
                now = drop_all_through(net, now, word)[1]
            for at in range(0, min(first, 40) + 4, 3):
                for rounds in (1, 2, 3, 4, 8, 16, 32, 64):
                    expected = starts[at] == starts[at + rounds]
                    self.check(expected, net, standing, word, (at, rounds))
                    told[expected] += 1
        self.assertGreater(min(told.values()), 500)

    def test_too_early_a_from(self):
        early = 0
        for net, standing, word in cases(126):
            first, rounds = comes_round(net, standing, word)
            for sooner in range(max(0, first - 5), first):
                for many in (rounds, 2 * rounds, 64):
                    self.check(False, net, standing, word, (sooner, many))
                    early += 1
        self.assertGreater(early, 300)

    def test_told_by_hand(self):
        for thing in ((0, 2), (1, 2), (0, 4), (0, 64), (10 ** 5, 2), (99999, 62)):
            self.check(True, ONE, (-1,), (1,), thing)
        for thing in ((0, 1), (0, 3), (0, 63), (10 ** 5, 1)):
            self.check(False, ONE, (-1,), (1,), thing)
        self.check(True, ONE, (5,), (1,), (2, 2))
        self.check(False, ONE, (5,), (1,), (1, 2))
        self.check(True, TWO_LEVELS, (-1, -1, -1), (1,), (0, 4))
        self.check(False, TWO_LEVELS, (-1, -1, -1), (1,), (0, 2))
        self.check(True, NEEDLESS, (-1, 9), (1,), (7, 4))
        self.check(False, NEEDLESS, (-1, 9), (1,), (6, 4))

    def test_by_name(self):
        self.assertIs(shows_round(net=ONE, standing=(-1,), word=(1,), thing=(0, 2)), True)
        self.assertIs(shows_round(thing=(0, 1), word=(1,), standing=(-1,), net=ONE), False)


class Bounds(unittest.TestCase):
    # Each round brings this one back, so the bounds alone tell.
    def check(self, expected, thing):
        self.assertIs(shows_round(BOTH_TO_ONE, (-1,), (1, 1), thing), expected, thing)

    def test_of_from(self):
        for first in (0, 1, 2, 64, 65, 99999, 10 ** 5):
            self.check(True, (first, 1))
        for first in (-1, -2, -10 ** 5, 10 ** 5 + 1, 10 ** 6, 10 ** 12, 10 ** 40):
            self.check(False, (first, 1))

    def test_of_rounds(self):
        for rounds in range(1, 65):
            self.check(True, (0, rounds))
            self.check(True, (10 ** 5, rounds))
        for rounds in (0, -1, -2, -64, 65, 66, 128, 10 ** 12, 10 ** 40):
            self.check(False, (0, rounds))
            self.check(False, (7, rounds))

    def test_true_and_false_are_no_numbers(self):
        self.check(True, (0, 1))
        self.check(True, (1, 1))
        for thing in ((False, 1), (0, True), (True, 1), (1, True), (False, True), (True, True)):
            self.check(False, thing)

    def test_other_things(self):
        for thing in ([0, 1], [], (), (0,), (1,), (0, 1, 1), (0, 1, 0), 0, 1, ((0, 1),), [(0, 1)], "01", "(0, 1)"):
            self.check(False, thing)
        for part in (None, "0", "1", "", (), (1,), [1], [], ((1,),)):
            self.check(False, (part, 1))
            self.check(False, (0, part))
        for thing in ODD_THINGS:
            self.check(False, thing)

    def test_what_is_looked_at_stays(self):
        for thing in ([0, 1], ([0], [1]), [[0, 1]]):
            before = copy.deepcopy(thing)
            self.check(False, thing)
            self.assertEqual(thing, before)

    def test_asking_changes_nothing(self):
        for net in (ONE, TOGETHER, CHAIN):
            word, standing = (3, 1), begun(net)
            told = comes_round(net, standing, word)
            for _ in range(3):
                self.assertIs(shows_round(net, standing, word, told), True)


if __name__ == "__main__":
    unittest.main()
