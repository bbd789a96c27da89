import copy
import itertools
import random
import unittest

from byhand import drop_each, fold_each_by, sizes_of, small_words
from panfalls.falls import falls, is_word
from panfalls.resets import fewest, reset, shows_reset, telling, told_start
from panfalls.runs import behind, spots
from things import ODD_THINGS

SMALL_RUNS = [(a, b) for a in range(1, 30, 2) for b in range(a, a + 50, 2)]
FAR_RUNS = [
    (1, 10 ** 9 - 1), (1, 10 ** 9 + 1), (999, 10 ** 9 - 1), (10 ** 9 - 1, 10 ** 9 - 1), (10 ** 9 - 3, 10 ** 9 - 1),
    (10 ** 9 // 2 + 1, 10 ** 9 + 1), (1, 2 ** 29 - 1), (1, 2 ** 29 + 1), (1, 2 * 10 ** 9 - 1), (7, 2 * 10 ** 9 + 5),
]


def least_power(many):
    n = 0
    while 2 ** n < many:
        n += 1
    return n


class Reset(unittest.TestCase):
    def test_told_by_hand(self):
        self.assertEqual(reset((1, 1)), ())
        self.assertEqual(reset((1, 3)), (1,))
        self.assertEqual(reset((1, 5)), (1, 1))
        self.assertEqual(reset((1, 7)), (2, 1))
        self.assertEqual(reset((1, 15)), (4, 2, 1))
        self.assertEqual(reset((1, 47)), (12, 6, 3, 1, 1))
        self.assertEqual(reset((7, 7)), ())
        self.assertEqual(reset((7, 9)), (4,))
        self.assertEqual(reset((7, 13)), (5, 1))
        self.assertEqual(reset((5, 9)), (3, 1))

    def test_beside_runs_folded_size_by_size(self):
        for run in SMALL_RUNS:
            word = reset(run)
            self.assertTrue(is_word(word))
            self.assertEqual(len(fold_each_by(sizes_of(run), word)), 1, run)
            self.assertEqual(len(word), fewest(run))
            self.assertEqual(fewest(run), least_power(len(sizes_of(run))))

    def test_each_weight_has_half_of_the_spots_below(self):
        for run in SMALL_RUNS:
            sizes = sizes_of(run)
            for weight in reset(run):
                below = [size for size in sizes if size < 2 * weight]
                self.assertEqual(len(below), len(sizes) // 2)
                sizes = fold_each_by(sizes, (weight,))

    def test_one_spot(self):
        for size in (1, 3, 47, 401, 10 ** 9 + 1):
            self.assertEqual(reset((size, size)), ())
            self.assertEqual(fewest((size, size)), 0)

    def test_very_many_spots(self):
        for run in FAR_RUNS:
            word = reset(run)
            self.assertTrue(is_word(word))
            self.assertEqual(spots(behind(run, word)), 1)
            self.assertEqual(len(word), least_power(spots(run)))
            self.assertEqual(fewest(run), least_power(spots(run)))
            for size in (run[0], run[1], run[0] + 2 * (spots(run) // 3)):
                self.assertIn(abs(drop_each(size, word)[0]), sizes_of(behind(run, word)))
        self.assertEqual(fewest((1, 2 * 10 ** 9 - 1)), 30)
        self.assertEqual(fewest((1, 2 ** 30 - 1)), 29)
        self.assertEqual(fewest((1, 2 ** 30 + 1)), 30)

    def test_no_word_of_fewer_grains_makes_one_spot(self):
        for run in [(1, b) for b in range(3, 19, 2)] + [(5, 11), (9, 17), (3, 19)]:
            fewer = fewest(run) - 1
            for word in [()] + small_words(fewer, 13):
                self.assertGreater(len(fold_each_by(sizes_of(run), word)), 1)
                self.assertIs(shows_reset(run, word), False)

    def test_by_name(self):
        self.assertEqual(reset(run=(7, 13)), (5, 1))
        self.assertEqual(fewest(run=(7, 13)), 2)
        self.assertIs(shows_reset(run=(7, 13), thing=(5, 1)), True)
        self.assertIs(shows_reset(thing=(5, 2), run=(7, 13)), False)


class Shown(unittest.TestCase):
    def test_what_reset_tells(self):
        for run in SMALL_RUNS + FAR_RUNS:
            self.assertIs(shows_reset(run, reset(run)), True)

    def test_any_word_beside_sizes_folded(self):
        source = random.Random(61)
        told = {True: 0, False: 0}
        for run in SMALL_RUNS:
            for _ in range(6):
                word = tuple(source.randint(1, 12) for _ in range(source.randint(0, 14)))
                expected = len(fold_each_by(sizes_of(run), word)) == 1
                self.assertIs(shows_reset(run, word), expected, (run, word))
                told[expected] += 1
        self.assertGreater(min(told.values()), 100)

    def test_other_words_that_make_one_spot(self):
        self.assertIs(shows_reset((1, 5), (1, 1, 1)), True)
        self.assertIs(shows_reset((1, 5), (2, 1)), True)
        self.assertIs(shows_reset((1, 7), (9, 7, 2, 1)), True)
        self.assertIs(shows_reset((5, 5), ()), True)
        self.assertIs(shows_reset((5, 5), (3, 10 ** 12)), True)

    def test_words_that_do_not(self):
        self.assertIs(shows_reset((1, 3), ()), False)
        self.assertIs(shows_reset((1, 3), (2,)), False)
        self.assertIs(shows_reset((1, 5), (1,)), False)
        self.assertIs(shows_reset((1, 7), (1, 2)), False)
        for run in SMALL_RUNS:
            if spots(run) > 1:
                self.assertIs(shows_reset(run, reset(run)[:-1]), False)

    def test_long_words(self):
        self.assertIs(shows_reset((1, 799), (1,) * 400), True)
        self.assertIs(shows_reset((1, 801), (1,) * 400), True)
        self.assertIs(shows_reset((1, 803), (1,) * 400), False)
        self.assertIs(shows_reset((1, 10 ** 9 - 1), (1,) * 400), False)
        self.assertIs(shows_reset((1, 10 ** 9 - 1), (24,) * 370 + reset((1, 10 ** 9 - 1))), True)
        self.assertIs(shows_reset((1, 5), (2,) * 400), False)

    def test_other_things(self):
        for run in ((1, 1), (1, 5), (7, 13), (1, 10 ** 9 + 1)):
            word = reset(run)
            wrong = ODD_THINGS + [0, 1, -1, list(word), [word], (word,), word + (0,), word + (True,), (False,) + word]
            for thing in wrong + [word + (-1,), word + (None,), word + ("1",), word + ((1,),), word + ([1],)]:
                self.assertIs(shows_reset(run, thing), False, (run, thing))

    def test_true_for_one(self):
        self.assertIs(shows_reset((1, 3), (1,)), True)
        self.assertIs(shows_reset((1, 3), (True,)), False)
        self.assertIs(shows_reset((1, 5), (1, True)), False)

    def test_what_is_looked_at_stays(self):
        for thing in ([1, 1], [[1], (1, [1])], ([1], 1)):
            before = copy.deepcopy(thing)
            self.assertIs(shows_reset((1, 5), thing), False)
            self.assertEqual(thing, before)


class Telling(unittest.TestCase):
    def starts(self, most):
        return range(1 - 2 * most, 2 * most, 2)

    def test_told_by_hand(self):
        self.assertEqual(telling(1), (1,))
        self.assertEqual(telling(2), (1, 1))
        self.assertEqual(telling(4), (2, 1, 1))
        self.assertEqual(telling(24), (12, 6, 3, 1, 1, 1))
        self.assertEqual(told_start(1, ["left"]), -1)
        self.assertEqual(told_start(1, ["right"]), 1)
        self.assertEqual(told_start(2, ["left", "left"]), -3)
        self.assertEqual(told_start(2, ["left", "right"]), -1)

    def test_is_reset_and_a_grain_of_1(self):
        for most in range(1, 25):
            self.assertEqual(telling(most), reset((1, 2 * most - 1)) + (1,))

    def test_each_start_is_told_by_its_sides(self):
        for most in range(1, 25):
            word = telling(most)
            for start in self.starts(most):
                sides = falls(start, word)[0]
                self.assertEqual(told_start(most, sides), start)
                self.assertEqual(told_start(most, tuple(sides)), start)

    def test_none_for_each_other_row(self):
        none = 0
        for most in range(1, 25):
            word = telling(most)
            rows = {tuple(falls(start, word)[0]): start for start in self.starts(most)}
            self.assertEqual(len(rows), 2 * most)
            for sides in itertools.product(("left", "right"), repeat=len(word)):
                expected = rows.get(sides)
                none += expected is None
                self.assertEqual(told_start(most, sides), expected, (most, sides))
                self.assertEqual(told_start(most, list(sides)), expected)
        self.assertGreater(none, 100)

    def test_no_fewer_grains_tell_all_starts(self):
        for most in range(1, 25):
            self.assertLess(2 ** (len(telling(most)) - 1), 2 * most)
        for most in (2, 3, 4):
            for word in small_words(len(telling(most)) - 1, 8):
                rows = {tuple(falls(start, word)[0]) for start in self.starts(most)}
                self.assertLess(len(rows), 2 * most)

    def test_rows_of_other_lengths_are_none(self):
        for most in (1, 2, 5, 24):
            sides = falls(-1, telling(most))[0]
            self.assertIsNone(told_start(most, sides + ["left"]))
            self.assertIsNone(told_start(most, sides[:-1]))
            self.assertIsNone(told_start(most, []))

    def test_sides_stay(self):
        for most in (1, 7, 24):
            sides = falls(1, telling(most))[0]
            before = list(sides)
            told_start(most, sides)
            self.assertEqual(sides, before)

    def test_by_name(self):
        self.assertEqual(telling(most=4), (2, 1, 1))
        self.assertEqual(told_start(most=1, sides=["left"]), -1)
        self.assertEqual(told_start(sides=("right",), most=1), 1)

    def test_far(self):
        most = 5 * 10 ** 8
        word = telling(most)
        for start in (1 - 2 * most, -1, 1, 12345677, 2 * most - 1):
            self.assertEqual(told_start(most, falls(start, word)[0]), start)


if __name__ == "__main__":
    unittest.main()
