import unittest

from byhand import NAMED_WORDS, drop_each, runs_round_by_round, settled_round_by_round, sizes_of
from byhand import small_words, some_words
from panfalls.runs import behind, is_run
from panfalls.staying import length, rounds_to, runs_to, staying

WORDS = NAMED_WORDS + small_words(4, 5) + some_words(11, 400)


class Runs(unittest.TestCase):
    def test_beside_runs_folded_round_by_round(self):
        for word in WORDS:
            runs = runs_round_by_round(word)
            told = runs_to(word)
            self.assertIs(type(told), list)
            self.assertEqual(told, runs, word)
            self.assertTrue(all(is_run(run) for run in told))
            self.assertEqual(staying(word), runs[-1])
            self.assertEqual(rounds_to(word), len(runs) - 1)

    def test_first_and_last(self):
        for word in WORDS:
            told = runs_to(word)
            self.assertEqual(told[0], (1, 2 * max(word) - 1))
            self.assertEqual(behind(told[-1], word), told[-1])
            self.assertEqual(told.count(told[-1]), 1)

    def test_rounds_are_fewer_than_the_greatest_weight(self):
        for word in WORDS:
            self.assertLessEqual(rounds_to(word), max(word) - 1)

    def test_one_weight_alone_stays_at_once(self):
        for weight in range(1, 25):
            self.assertEqual(runs_to((weight,)), [(1, 2 * weight - 1)])
            self.assertEqual(staying((weight,)), (1, 2 * weight - 1))
            self.assertEqual(rounds_to((weight,)), 0)

    def test_the_slowest(self):
        for most in range(2, 25):
            word = (most, most - 1)
            self.assertEqual(runs_to(word), [(1, last) for last in range(2 * most - 1, 0, -2)])
            self.assertEqual(staying(word), (1, 1))
            self.assertEqual(rounds_to(word), most - 1)

    def test_powers_of_two(self):
        self.assertEqual(runs_to((1,)), [(1, 1)])
        for n in range(1, 5):
            word = tuple(2 ** at for at in range(n, -1, -1))
            self.assertEqual(runs_to(word), [(1, 2 ** (n + 1) - 1), (1, 1)])

    def test_the_order_of_the_grains_counts(self):
        self.assertEqual(runs_to((2, 1)), [(1, 3), (1, 1)])
        self.assertEqual(runs_to((1, 2)), [(1, 3), (3, 3)])

    def test_told_lists_are_the_askers_own(self):
        for word in ((3,), (5, 4), (1, 2)):
            first = runs_to(word)
            second = runs_to(word)
            self.assertIsNot(first, second)
            first[0] = (7, 7)
            first.append((9, 9))
            self.assertEqual(runs_to(word), second)
            self.assertEqual(staying(word), second[-1])
            self.assertEqual(rounds_to(word), len(second) - 1)

    def test_by_name(self):
        self.assertEqual(runs_to(word=(1, 2)), [(1, 3), (3, 3)])
        self.assertEqual(staying(word=(1, 2)), (3, 3))
        self.assertEqual(rounds_to(word=(1, 2)), 1)
        self.assertEqual(length(word=(1, 2)), 2)


class Length(unittest.TestCase):
    def test_beside_falls_gone_through(self):
        told = set()
        for word in WORDS:
            many = length(word)
            told.add(many)
            for size in sizes_of(staying(word)):
                for start in (size, -size):
                    once = drop_each(start, word)[0]
                    self.assertEqual(many == 1, once == start, word)
                    self.assertEqual(drop_each(once, word)[0], start, word)
        self.assertEqual(told, {1, 2})

    def test_every_start_comes_to_it(self):
        for word in WORDS:
            for start in (-401, -49, -23, -1, 1, 3, 21, 47, 399):
                self.assertEqual(settled_round_by_round(start, word)[1], length(word))

    def test_bare_word(self):
        self.assertEqual(length(()), 1)

    def test_two_where_the_pounds_are_odd(self):
        for word in WORDS:
            if sum(word) % 2 == 1:
                self.assertEqual(length(word), 2)

    def test_either_where_the_pounds_are_even(self):
        self.assertEqual(length((1, 1)), 1)
        self.assertEqual(length((2,)), 2)
        self.assertEqual(length((1, 1, 2, 2)), 1)
        self.assertEqual({length(word) for word in WORDS if sum(word) % 2 == 0}, {1, 2})


if __name__ == "__main__":
    unittest.main()
