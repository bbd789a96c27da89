import random
import unittest

from byhand import fold_each, fold_each_by, run_of, sizes_of, some_words
from panfalls.runs import behind, folded, is_run, is_whole, parts, spots
from things import ODD_THINGS

FAR = 10 ** 12
NEAR_RUNS = [(first, last) for first in range(1, 20, 2) for last in range(first, 30, 2)]


class Looked(unittest.TestCase):
    def test_runs(self):
        for thing in ((1, 1), (1, 3), (3, 3), (5, 47), (1, FAR + 1), (FAR - 1, FAR + 1), (1, 10 ** 40 + 1)):
            self.assertIs(is_run(thing), True, thing)

    def test_wrong_pairs(self):
        wrong = [
            (2, 3), (1, 2), (2, 4), (0, 1), (0, 0), (1, 0), (3, 1), (5, 3), (-1, 1), (-3, -1), (-1, 3), (1, -1),
            (FAR + 1, 1), (True, 1), (1, True), (True, True), (True, 3), (False, 3), (1, None), (None, 3),
            ("1", 3), (1, "3"), (1, [3]), ((1,), 3), ((1, 3), (1, 3)),
        ]
        for thing in wrong:
            self.assertIs(is_run(thing), False, thing)

    def test_wrong_forms(self):
        for thing in ([1, 3], [1, 1], (), (1,), (1, 3, 5), (1, 1, 1), [], 0, 1, 3, -1, "13"):
            self.assertIs(is_run(thing), False, thing)

    def test_other_things(self):
        for thing in ODD_THINGS:
            self.assertIs(is_run(thing), False, thing)

    def test_by_name(self):
        self.assertIs(is_run(thing=(1, 3)), True)
        self.assertIs(is_run(thing=[1, 3]), False)

    def test_what_is_looked_at_stays(self):
        thing = [1, [3, (5, [7])]]
        is_run(thing)
        self.assertEqual(thing, [1, [3, (5, [7])]])


class Folding(unittest.TestCase):
    def test_spots(self):
        for run in NEAR_RUNS:
            self.assertEqual(spots(run), len(sizes_of(run)))
        self.assertEqual(spots((1, 2 * FAR - 1)), FAR)
        self.assertEqual(spots(run=(FAR - 1, FAR + 1)), 2)

    def test_folded_beside_each_size(self):
        for run in NEAR_RUNS:
            for weight in range(1, 20):
                told = folded(run, weight)
                self.assertIs(type(told), tuple)
                self.assertEqual(told, run_of(fold_each(sizes_of(run), weight)), (run, weight))
                self.assertTrue(is_run(told))

    def test_parts_beside_each_size(self):
        for run in NEAR_RUNS:
            for weight in range(1, 20):
                sizes = sizes_of(run)
                both = any(size > 2 * weight for size in sizes) and any(size < 2 * weight for size in sizes)
                self.assertIs(parts(run, weight), both, (run, weight))

    def test_folded_told_by_hand(self):
        self.assertEqual(folded((5, 9), 1), (3, 7))
        self.assertEqual(folded((5, 9), 2), (1, 5))
        self.assertEqual(folded((5, 9), 3), (1, 3))
        self.assertEqual(folded((5, 9), 4), (1, 3))
        self.assertEqual(folded((5, 9), 5), (1, 5))
        self.assertEqual(folded((5, 9), 6), (3, 7))
        self.assertEqual(folded((7, 7), 3), (1, 1))
        self.assertEqual(folded((7, 7), 4), (1, 1))
        self.assertEqual(folded(run=(1, 1), weight=FAR), (2 * FAR - 1, 2 * FAR - 1))

    def test_parts_at_both_ends(self):
        self.assertIs(parts((5, 9), 2), False)
        self.assertIs(parts((5, 9), 3), True)
        self.assertIs(parts((5, 9), 4), True)
        self.assertIs(parts((5, 9), 5), False)
        self.assertIs(parts(run=(7, 7), weight=3), False)
        self.assertIs(parts(weight=4, run=(7, 7)), False)

    def test_runs_of_very_many_spots(self):
        wide = (1, 2 * FAR - 1)
        self.assertEqual(folded(wide, FAR), wide)
        self.assertEqual(folded(wide, 1), (1, 2 * FAR - 3))
        self.assertEqual(folded(wide, FAR // 2), (1, FAR - 1))
        self.assertIs(parts(wide, FAR), False)
        self.assertIs(parts(wide, FAR - 1), True)
        self.assertEqual(folded((FAR + 1, 2 * FAR - 1), FAR // 2), (1, FAR - 1))
        self.assertIs(parts((FAR + 1, 2 * FAR - 1), FAR // 2), False)
        self.assertEqual(folded((FAR + 1, 2 * FAR - 1), FAR), (1, FAR - 1))

    def test_behind_and_whole_beside_each_size(self):
        source = random.Random(3)
        whole = 0
        for word in some_words(4, 500, 12, 24):
            first = source.randrange(1, 60, 2)
            run = (first, first + source.randrange(0, 40, 2))
            sizes = sizes_of(run)
            self.assertEqual(behind(run, word), run_of(fold_each_by(sizes, word)))
            ends_unlike = len(fold_each_by(sizes, word)) == len(sizes)
            self.assertIs(is_whole(run, word), ends_unlike, (run, word))
            whole += ends_unlike
        self.assertTrue(50 < whole < 450, whole)

    def test_behind_is_folded_grain_by_grain(self):
        source = random.Random(5)
        for _ in range(20):
            word = tuple(source.randint(1, FAR) for _ in range(400))
            run = (source.randrange(1, FAR, 2), FAR + source.randrange(1, FAR, 2))
            now, whole = run, True
            for weight in word:
                whole = whole and not parts(now, weight)
                now = folded(now, weight)
            self.assertEqual(behind(run, word), now)
            self.assertIs(is_whole(run, word), whole)

    def test_whole_by_long_words(self):
        self.assertIs(is_whole((1, 2 * FAR - 1), (FAR,) * 400), True)
        self.assertIs(is_whole((1, 2 * FAR - 1), (FAR,) * 399 + (1,)), False)
        self.assertIs(is_whole((801, 803), (1,) * 400), True)
        self.assertIs(is_whole((799, 801), (1,) * 400), False)

    def test_whole_looks_at_every_grain(self):
        self.assertIs(is_whole((1, 5), (3, 3)), True)
        self.assertIs(is_whole((1, 5), (1, 3)), False)
        self.assertIs(is_whole((1, 5), (3, 2)), False)
        # The second grain finds what the first one made: (7, 9) by 3 is (1, 3), which 1 parts.
        self.assertIs(is_whole((7, 9), (3, 1)), False)
        self.assertIs(is_whole((7, 9), (1, 2)), True)

    def test_bare_word(self):
        for run in NEAR_RUNS:
            self.assertEqual(behind(run, ()), run)
            self.assertIs(is_whole(run, ()), True)

    def test_by_name(self):
        self.assertEqual(behind(word=(3, 1), run=(7, 9)), (1, 1))
        self.assertIs(is_whole(word=(3, 1), run=(7, 9)), False)

    def test_nothing_is_whole_by_what_is_no_word(self):
        for thing in ODD_THINGS + [0, 1, -1]:
            self.assertIs(is_whole((1, 3), thing), False, thing)


if __name__ == "__main__":
    unittest.main()
