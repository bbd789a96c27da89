import random
import unittest

from byhand import NAMED_WORDS, drop_each, grains_of, settled_round_by_round, small_words, some_words
from panfalls.settling import pounds_at, settled_from, standing_at
from panfalls.staying import length, rounds_to, staying

WORDS = NAMED_WORDS + small_words(3, 4) + some_words(31, 80)
NEAR = [-401, -49, -25, -7, -3, -1, 1, 3, 5, 23, 47, 399]
MOST = 10 ** 12
FAR = [10 ** 9 - 1, 1 - 10 ** 9, 10 ** 9 + 1, -10 ** 9 - 1, 999999, -765433]


class Standing(unittest.TestCase):
    def check(self, start, word, many):
        now, both = drop_each(start, grains_of(word, many))
        self.assertEqual(standing_at(start, word, many), now, (start, word, many))
        told = pounds_at(start, word, many)
        self.assertEqual(told, both, (start, word, many))
        self.assertIs(type(told), tuple)

    def test_beside_grain_by_grain(self):
        source = random.Random(32)
        for word in WORDS:
            for start in NEAR:
                for many in (0, 1, len(word), source.randint(0, 90), source.randint(90, 400)):
                    self.check(start, word, many)

    def test_every_number_of_grains(self):
        for word in ((5, 4), (1, 2), (3, 3, 1), (7,), (2, 9, 4, 4, 1)):
            for start in (-81, -9, -1, 1, 5, 63):
                for many in range(120):
                    self.check(start, word, many)

    def test_far_starts_beside_grain_by_grain(self):
        for word in ((24, 23), (24,) * 12, (1, 24, 7), (5, 5, 4, 9), (13, 2, 2)):
            for start in (20001, -20001, 19999, -34567):
                for many in (1, 100, 431, 1000, 1001, 5000):
                    self.check(start, word, many)

    def test_starts_beside_the_edge_of_a_round(self):
        for word in ((3, 2), (1, 2), (2, 2, 5), (4,)):
            step = 2 * sum(word)
            for rounds in range(4):
                for size in range(max(1, rounds * step - 5), rounds * step + 6):
                    if size % 2 == 1:
                        for many in range(0, 8 * len(word)):
                            self.check(size, word, many)
                            self.check(-size, word, many)

    def test_no_grains(self):
        for word in WORDS:
            for start in NEAR + FAR:
                self.assertEqual(standing_at(start, word, 0), start)
                self.assertEqual(pounds_at(start, word, 0), (0, 0))

    def test_bare_word(self):
        for start in NEAR + FAR:
            for many in (0, 1, 7, MOST):
                self.assertEqual(standing_at(start, (), many), start)
                self.assertEqual(pounds_at(start, (), many), (0, 0))

    def test_far_grains_told_by_hand(self):
        self.assertEqual(standing_at(1, (1,), MOST), 1)
        self.assertEqual(standing_at(1, (1,), MOST + 1), -1)
        self.assertEqual(pounds_at(1, (1,), MOST), (MOST // 2, MOST // 2))
        self.assertEqual(pounds_at(1, (1,), MOST + 1), (MOST // 2, MOST // 2 + 1))
        # From 10 ** 9 - 1 half a milliard grains of 1 fall right, until the standing is -1.
        self.assertEqual(standing_at(10 ** 9 - 1, (1,), 5 * 10 ** 8), -1)
        self.assertEqual(standing_at(10 ** 9 - 1, (1,), 5 * 10 ** 8 - 1), 1)
        self.assertEqual(pounds_at(10 ** 9 - 1, (1,), 5 * 10 ** 8), (0, 5 * 10 ** 8))
        self.assertEqual(pounds_at(1 - 10 ** 9, (1,), 5 * 10 ** 8 + 2), (5 * 10 ** 8 + 1, 1))

    def test_far_grains_go_on_from_each_other(self):
        source = random.Random(33)
        for word in WORDS:
            for start in FAR:
                rounds = MOST // len(word)
                ahead = source.randint(0, rounds) * len(word)
                many = rounds * len(word)
                middle = standing_at(start, word, ahead)
                self.assertEqual(standing_at(middle, word, many - ahead), standing_at(start, word, many))
                first = pounds_at(start, word, ahead)
                second = pounds_at(middle, word, many - ahead)
                both = (first[0] + second[0], first[1] + second[1])
                self.assertEqual(both, pounds_at(start, word, many))
                self.assertEqual(sum(both), rounds * sum(word))

    def test_far_grains_are_near_ones_of_the_same_round(self):
        for word in WORDS:
            for start in NEAR:
                settled = settled_round_by_round(start, word)[0]
                ahead = settled * len(word)
                again = 2 * len(word)
                for more in (0, 1, len(word), len(word) + 1):
                    near = standing_at(start, word, ahead + more)
                    times = (MOST - ahead - more) // again
                    self.assertEqual(standing_at(start, word, ahead + more + times * again), near)

    def test_the_next_grain_falls_to_the_lighter_pan(self):
        for word in WORDS:
            for start in FAR:
                for many in (MOST - 1, MOST // 3, 10 ** 7, 10 ** 7 + 1):
                    weight = word[many % len(word)]
                    now, both = drop_each(standing_at(start, word, many), (weight,))
                    self.assertEqual(standing_at(start, word, many + 1), now)
                    ahead = pounds_at(start, word, many)
                    told = (ahead[0] + both[0], ahead[1] + both[1])
                    self.assertEqual(pounds_at(start, word, many + 1), told)

    def test_by_name(self):
        self.assertEqual(standing_at(standing=7, word=(1, 2), many=3), -1)
        self.assertEqual(standing_at(many=3, word=(1, 2), standing=-7), 1)
        self.assertEqual(pounds_at(standing=7, word=(1, 2), many=3), (0, 4))
        self.assertEqual(pounds_at(many=3, word=(1, 2), standing=-7), (4, 0))


class Settled(unittest.TestCase):
    def test_beside_rounds_gone_through(self):
        for word in WORDS:
            for start in NEAR + [-1501, 2003, 1601]:
                settled, again = settled_round_by_round(start, word)
                self.assertEqual(settled_from(start, word), settled, (start, word))
                self.assertEqual(again, length(word))

    def test_every_start_below_twice_the_greatest_weight(self):
        for word in NAMED_WORDS + some_words(34, 60):
            most = max(word)
            slowest = 0
            for size in range(1, 2 * most, 2):
                for start in (size, -size):
                    told = settled_from(start, word)
                    self.assertEqual(told, settled_round_by_round(start, word)[0])
                    slowest = max(slowest, told)
            self.assertLessEqual(slowest, most - 1)
            self.assertLessEqual(slowest, rounds_to(word))

    def test_far_starts_beside_rounds_gone_through(self):
        for word in ((1, 2), (24, 23), (5,), (9, 4, 4), (24,) * 12):
            for start in (10 ** 5 + 1, -10 ** 5 - 1, 10 ** 5 + 7, 31 - 10 ** 5):
                self.assertEqual(settled_from(start, word), settled_round_by_round(start, word)[0])

    def test_farthest_starts(self):
        # The size is first in the staying run there, and comes back from there on.
        for word in WORDS:
            first, last = staying(word)
            for start in FAR:
                told = settled_from(start, word)
                ahead = abs(standing_at(start, word, (told - 1) * len(word)))
                there = standing_at(start, word, told * len(word))
                self.assertFalse(first <= ahead <= last)
                self.assertTrue(first <= abs(there) <= last)
                self.assertEqual(drop_each(there, word * length(word))[0], there)
        self.assertEqual(settled_from(10 ** 9 + 1, (1,)), 5 * 10 ** 8)
        self.assertEqual(settled_from(-10 ** 9 - 1, (1,)), 5 * 10 ** 8)

    def test_bare_word(self):
        for start in NEAR + FAR:
            self.assertEqual(settled_from(start, ()), 0)

    def test_by_name(self):
        self.assertEqual(settled_from(standing=1, word=(5, 4)), settled_from(1, (5, 4)))
        self.assertEqual(settled_from(word=(5, 4), standing=9), settled_round_by_round(9, (5, 4))[0])


if __name__ == "__main__":
    unittest.main()
