import random
import unittest
from fractions import Fraction

from byhand import grains_of, some_words
from netsbyhand import (
    BOTH_TO_ONE, CHAIN, NAMED_NETS, NEEDLESS, ONE, TOGETHER, TWO_LEVELS, WIDE, drop_all_through, levels_by_ways,
    pounds_by_hand, round_by_round, shares_by_ways, some_nets, some_standing,
)
from panfalls.coming import bound, comes_round, exit_at, pounds_out, standing_behind
from panfalls.nets import begun
from panfalls.netfalls import way_of

FAR = 10 ** 12
NETS = NAMED_NETS + some_nets(111, 60)
NAMED_WORDS = [(1,), (2,), (24,), (1, 2), (24, 23), (24,) * 12, tuple(range(1, 13))]


def cases(seed, sizes=(1, 47, 401)):
    """Nets, standings of these sizes at most, and words that aren't bare."""
    source = random.Random(seed)
    words = NAMED_WORDS + some_words(seed, 200)
    for net in NETS:
        for size in sizes:
            yield net, some_standing(source, net, size), source.choice(words)


class Bound(unittest.TestCase):
    def test_told_by_hand(self):
        self.assertEqual(bound(ONE, (1,)), (0, 2))
        self.assertEqual(bound(ONE, (24, 3)), (23, 2))
        self.assertEqual(bound(TWO_LEVELS, (5,)), (12, 4))
        self.assertEqual(bound(net=CHAIN, word=(1, 24)), (713, 32))
        self.assertEqual(bound(word=(2,), net=TOGETHER), (7, 8))

    def test_each_net(self):
        for net in NETS:
            power = 2 ** (max(levels_by_ways(net)) + 1)
            for word in NAMED_WORDS:
                told = bound(net, word)
                self.assertEqual(told, ((max(word) - 1) * (power - 1), power))
                self.assertIs(type(told), tuple)


class Round(unittest.TestCase):
    def test_told_by_hand(self):
        self.assertEqual(comes_round(ONE, (-1,), (1,)), (0, 2))
        self.assertEqual(comes_round(ONE, (-1,), (1, 1)), (0, 1))
        self.assertEqual(comes_round(TWO_LEVELS, (-1, -1, -1), (1,)), (0, 4))
        self.assertEqual(comes_round(CHAIN, begun(CHAIN), (1,)), (0, 32))
        self.assertEqual(comes_round(net=ONE, standing=(5,), word=(1,)), (2, 2))
        self.assertEqual(comes_round(word=(1,), standing=(-5,), net=BOTH_TO_ONE), (2, 2))
        # Balance 1 hears 1 grain of two, its size 9 is 1 behind four of them.
        self.assertEqual(comes_round(NEEDLESS, (-1, 9), (1,)), (7, 4))

    def test_beside_rounds_gone_through(self):
        seen = set()
        for net, standing, word in cases(112):
            starts, first = round_by_round(net, standing, word)
            told = comes_round(net, standing, word)
            self.assertIs(type(told), tuple)
            self.assertEqual(told, (first, len(starts) - first), (net, standing, word))
            self.assertEqual(2 ** (max(levels_by_ways(net)) + 1) % told[1], 0)
            seen.add(told[1])
        self.assertLessEqual({1, 2, 4, 8, 16}, seen)

    def test_both_are_least(self):
        for net, standing, word in cases(113, (9, 99)):
            first, rounds = comes_round(net, standing, word)
            now, starts = standing, []
            for _ in range(first + 2 * rounds + 1):
                starts.append(now)
                now = drop_all_through(net, now, word)[1]
            self.assertEqual(starts[first:first + rounds], starts[first + rounds:first + 2 * rounds])
            self.assertEqual(len(set(starts[first:first + rounds])), rounds)
            if first:
                self.assertNotEqual(starts[first - 1], starts[first - 1 + rounds])

    def test_within_bound_where_sizes_are_small(self):
        source = random.Random(114)
        slow = 0
        for net in NETS:
            for word in source.sample(NAMED_WORDS, 3) + some_words(source.random(), 3):
                standing = some_standing(source, net, 2 * max(word) - 1)
                most, power = bound(net, word)
                first, rounds = comes_round(net, standing, word)
                self.assertLessEqual(first, most)
                self.assertEqual(power % rounds, 0)
                slow += first > 10
        self.assertGreater(slow, 5)

    def test_greater_sizes(self):
        for net in (ONE, TWO_LEVELS, TOGETHER, CHAIN, WIDE):
            for word in ((1,), (24,), (3, 1)):
                for size in (399, -401, 2001):
                    standing = (size,) * len(net)
                    starts, first = round_by_round(net, standing, word)
                    self.assertEqual(comes_round(net, standing, word), (first, len(starts) - first))


class Grains(unittest.TestCase):
    def check(self, net, standing, word, many):
        grains = grains_of(word, many + 1)
        names, after = drop_all_through(net, standing, grains[:many])
        told = standing_behind(net, standing, word, many)
        self.assertEqual(told, after, (net, standing, word, many))
        self.assertIs(type(told), tuple)
        out = pounds_out(net, standing, word, many)
        self.assertEqual(out, pounds_by_hand(net, names, grains), (net, standing, word, many))
        self.assertIs(type(out), list)
        self.assertEqual(exit_at(net, standing, word, many), drop_all_through(net, after, grains[many:])[0][0])

    def test_beside_grains_gone_through(self):
        source = random.Random(115)
        for net, standing, word in cases(116):
            for many in (0, 1, len(word), source.randint(0, 40), source.randint(40, 900)):
                self.check(net, standing, word, many)

    def test_every_number_of_grains(self):
        for net in (ONE, BOTH_TO_ONE, TWO_LEVELS, TOGETHER, NEEDLESS):
            for word in ((1,), (1, 2), (5, 4), (3, 3, 1), (2, 9, 4, 4, 1)):
                for size in (-1, 7, 21):
                    for many in range(60):
                        self.check(net, (size,) * len(net), word, many)

    def test_none(self):
        for net, standing, word in cases(117):
            self.assertEqual(standing_behind(net, standing, word, 0), standing)
            names = sorted({lead for pair in net for lead in pair if isinstance(lead, str)})
            self.assertEqual(pounds_out(net, standing, word, 0), [(name, 0) for name in names])

    def test_exits_at_which_nothing_came_out(self):
        self.assertEqual(pounds_out(ONE, (-99,), (5,), 3), [("a", 15), ("b", 0)])
        self.assertEqual(pounds_out(TWO_LEVELS, (-1,) * 3, (7,), 1), [("a", 7), ("b", 0), ("c", 0), ("d", 0)])

    def test_told_by_hand(self):
        self.assertEqual([exit_at(ONE, (-1,), (5, 2, 3), number) for number in range(4)], ["a", "b", "b", "a"])
        self.assertEqual(standing_behind(ONE, (-1,), (5, 2, 3), 2), (5,))
        self.assertEqual(pounds_out(ONE, (-1,), (5, 2, 3), 3), [("a", 5), ("b", 5)])
        self.assertEqual("".join(exit_at(TWO_LEVELS, (-1,) * 3, (1,), number) for number in range(8)), "acbdacbd")

    def test_by_name(self):
        self.assertEqual(exit_at(net=ONE, standing=(-1,), word=(5,), number=1), "b")
        self.assertEqual(exit_at(number=0, word=(5,), standing=(-1,), net=ONE), "a")
        self.assertEqual(standing_behind(net=ONE, standing=(-1,), word=(5,), many=1), (9,))
        self.assertEqual(standing_behind(many=1, word=(5,), standing=(-1,), net=ONE), (9,))
        self.assertEqual(pounds_out(net=ONE, standing=(-1,), word=(5,), many=1), [("a", 5), ("b", 0)])
        self.assertEqual(pounds_out(many=1, word=(5,), standing=(-1,), net=ONE), [("a", 5), ("b", 0)])


class FarGrains(unittest.TestCase):
    def test_told_by_hand(self):
        self.assertEqual(exit_at(ONE, (-1,), (1,), FAR), "a")
        self.assertEqual(exit_at(ONE, (-1,), (1,), FAR + 1), "b")
        self.assertEqual(standing_behind(ONE, (-1,), (1,), FAR), (-1,))
        self.assertEqual(standing_behind(ONE, (-1,), (1,), FAR + 1), (1,))
        self.assertEqual(pounds_out(ONE, (-1,), (1,), FAR), [("a", FAR // 2), ("b", FAR // 2)])
        quarters = [(name, FAR // 4) for name in "abcd"]
        self.assertEqual(pounds_out(TWO_LEVELS, (-1,) * 3, (1,), FAR), quarters)
        self.assertEqual(pounds_out(BOTH_TO_ONE, (-1,), (24,) * 12, FAR), [("a", 24 * FAR)])

    def test_beside_rounds_until_one_comes_again(self):
        source = random.Random(118)
        for net, standing, word in cases(119):
            starts, first = round_by_round(net, standing, word)
            many = source.choice((FAR, FAR - 1, source.randint(10 ** 7, FAR)))
            rounds, rest = divmod(many, len(word))
            now = starts[first + (rounds - first) % (len(starts) - first)]
            names, after = drop_all_through(net, now, word[:rest] + (word[rest],))
            self.assertEqual(exit_at(net, standing, word, many), names[-1])
            after = drop_all_through(net, now, word[:rest])[1]
            self.assertEqual(standing_behind(net, standing, word, many), after)
            # So many rounds ahead the pounds are by so many shares of whole comings round less.
            again = len(starts) - first
            ahead = first * len(word) + (many - first * len(word)) % (again * len(word))
            times = (many - ahead) // (again * len(word))
            less = dict(pounds_by_hand(net, *self.out(net, standing, word, ahead)))
            each = dict(pounds_by_hand(net, *self.out(net, starts[first], word, again * len(word))))
            expected = [(name, less[name] + times * each[name]) for name in sorted(less)]
            self.assertEqual(pounds_out(net, standing, word, many), expected)

    def out(self, net, standing, word, many):
        grains = grains_of(word, many)
        return drop_all_through(net, standing, grains)[0], grains

    def test_go_on_from_each_other(self):
        for net, standing, word in cases(120):
            now = standing_behind(net, standing, word, FAR)
            weight = word[FAR % len(word)]
            pans, name, after = way_of(net, now, weight)
            self.assertEqual(exit_at(net, standing, word, FAR), name)
            self.assertEqual(standing_behind(net, standing, word, FAR + 1), after)
            more = dict(pounds_out(net, standing, word, FAR))
            more[name] += weight
            self.assertEqual(pounds_out(net, standing, word, FAR + 1), sorted(more.items()))

    def test_each_exit_gets_just_its_share_in_two_to_depth_rounds(self):
        for net, standing, word in cases(121):
            first, rounds = comes_round(net, standing, word)
            power = bound(net, word)[1]
            for start in (first, first + 1, first + 10 ** 9):
                ahead = dict(pounds_out(net, standing, word, start * len(word)))
                behind = dict(pounds_out(net, standing, word, (start + power) * len(word)))
                for name, share in shares_by_ways(net).items():
                    self.assertEqual(Fraction(behind[name] - ahead[name]), share * power * sum(word))


class Kept(unittest.TestCase):
    def test_told_lists_are_the_askers_own(self):
        for many in (0, 3, FAR):
            first = pounds_out(TOGETHER, (-1,) * 4, (3, 2), many)
            second = pounds_out(TOGETHER, (-1,) * 4, (3, 2), many)
            self.assertIsNot(first, second)
            first[0] = ("z", 1)
            first.append(("zz", 1))
            self.assertEqual(pounds_out(TOGETHER, (-1,) * 4, (3, 2), many), second)

    def test_what_was_handed_in_stays(self):
        net, standing, word = TOGETHER, (7, -9, 11, -1), (3, 2)
        for ask in (exit_at, standing_behind, pounds_out):
            first = ask(net, standing, word, 77)
            self.assertEqual(ask(net, standing, word, 77), first)
        self.assertEqual((net, standing, word), (TOGETHER, (7, -9, 11, -1), (3, 2)))


if __name__ == "__main__":
    unittest.main()
