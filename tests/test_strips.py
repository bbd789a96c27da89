import copy
import itertools
import random
import unittest

from byhand import drop_each, small_words, some_words
from panfalls.strips import acts_alike, layers, least_word, strip, strip_of

WORDS = [()] + small_words(3, 4) + some_words(71, 150) + [(24,) * 12, (1,) * 12, (10 ** 3,), tuple(range(1, 13))]
MOSTS = (1, 2, 3, 5, 8)


def strip_by_hand(word, most):
    told = []
    for size in range(1, 2 * most, 2):
        after, below = drop_each(size, word)[0], drop_each(-size, word)[0]
        # Both sides of 0 must tell the same.
        assert after == -below
        told.append((abs(after), after < 0))
    return told


def words_of(grains, most):
    """All words of so many grains, of weights to most, as tuples rise."""
    return list(itertools.product(range(1, most + 1), repeat=grains))


class Strip(unittest.TestCase):
    def test_told_by_hand(self):
        self.assertEqual(strip((), 3), [(1, False), (3, False), (5, False)])
        self.assertEqual(strip((1,), 3), [(1, True), (1, False), (3, False)])
        self.assertEqual(strip((2,), 3), [(3, True), (1, True), (1, False)])
        self.assertEqual(strip((2, 1), 2), [(1, True), (1, False)])
        self.assertEqual(strip((24,), 1), [(47, True)])

    def test_beside_falls_for_each_size(self):
        for word in WORDS:
            for most in MOSTS:
                told = strip(word, most)
                self.assertIs(type(told), list)
                self.assertEqual(told, strip_by_hand(word, most))
                for pair in told:
                    self.assertIs(type(pair), tuple)
                    self.assertIs(type(pair[1]), bool)

    def test_by_name(self):
        self.assertEqual(strip(word=(1,), most=3), [(1, True), (1, False), (3, False)])
        self.assertEqual(strip(most=1, word=()), [(1, False)])

    def test_told_lists_are_the_askers_own(self):
        for word in ((), (2, 1)):
            first, second = strip(word, 3), strip(word, 3)
            self.assertIsNot(first, second)
            first[0] = (9, True)
            first.append((7, False))
            self.assertEqual(strip(word, 3), second)
            self.assertTrue(acts_alike(word, word, 3))


class Alike(unittest.TestCase):
    def test_as_strips_being_one(self):
        told = {True: 0, False: 0}
        source = random.Random(72)
        for most in MOSTS:
            for one in WORDS:
                other = source.choice(WORDS)
                expected = strip_by_hand(one, most) == strip_by_hand(other, most)
                self.assertIs(acts_alike(one, other, most), expected)
                self.assertIs(acts_alike(one, one, most), True)
                told[expected] += 1
            for one in small_words(3, 3):
                for other in small_words(2, 3):
                    expected = strip_by_hand(one, most) == strip_by_hand(other, most)
                    self.assertIs(acts_alike(one, other, most), expected)
                    told[expected] += 1
        self.assertGreater(min(told.values()), 100)

    def test_told_by_hand(self):
        self.assertIs(acts_alike((1, 1), (), 1), True)
        self.assertIs(acts_alike((1, 1), (), 2), False)
        # Each size is the same then, but not each side.
        self.assertIs(acts_alike((1,), (), 1), False)
        self.assertIs(acts_alike(one=(2, 2), other=(), most=2), True)
        self.assertIs(acts_alike(most=3, other=(), one=(2, 2)), False)


class Layers(unittest.TestCase):
    def test_told_by_hand(self):
        self.assertEqual(layers((), 3), [(1, (1,)), (3, (3,)), (5, (5,))])
        self.assertEqual(layers((1,), 3), [(1, (1, 3)), (3, (5,))])
        self.assertEqual(layers((2,), 3), [(1, (3, 5)), (3, (1,))])
        self.assertEqual(layers((2, 1), 2), [(1, (1, 3))])

    def test_beside_falls_for_each_size(self):
        for word in WORDS:
            for most in MOSTS:
                made = [(abs(drop_each(size, word)[0]), size) for size in range(1, 2 * most, 2)]
                expected = []
                for size in sorted({to for to, of in made}):
                    expected.append((size, tuple(sorted(of for to, of in made if to == size))))
                told = layers(word, most)
                self.assertIs(type(told), list)
                self.assertEqual(told, expected)

    def test_told_lists_are_the_askers_own(self):
        first, second = layers((1,), 3), layers((1,), 3)
        self.assertIsNot(first, second)
        first.clear()
        self.assertEqual(layers((1,), 3), second)

    def test_by_name(self):
        self.assertEqual(layers(word=(1,), most=3), [(1, (1, 3)), (3, (5,))])
        self.assertEqual(layers(most=1, word=()), [(1, (1,))])


class Behind(unittest.TestCase):
    def test_beside_the_strip_of_both_words(self):
        source = random.Random(73)
        for most in MOSTS:
            firsts = [()] + [
                tuple(source.randint(1, most) for _ in range(source.randint(1, 6))) for _ in range(60)
            ]
            for first in firsts:
                for second in source.sample(WORDS, 10) + [()]:
                    told = strip_of(strip(first, most), strip(second, most))
                    self.assertIs(type(told), list)
                    self.assertEqual(told, strip_by_hand(first + second, most))
                    for pair in told:
                        self.assertIs(type(pair[1]), bool)

    def test_lists_and_tuples(self):
        one, other = strip((2, 1), 4), strip((9, 3), 4)
        told = strip_of(one, other)
        self.assertEqual(strip_of(tuple(one), other), told)
        self.assertEqual(strip_of(one, tuple(other)), told)
        self.assertIs(type(strip_of(tuple(one), tuple(other))), list)
        self.assertEqual(strip_of(first=one, second=other), told)
        self.assertEqual(strip_of(second=other, first=one), told)

    def test_what_was_handed_in_stays(self):
        one, other = strip((2, 1), 4), strip((9, 3), 4)
        before = copy.deepcopy((one, other))
        told = strip_of(one, other)
        told.append((1, True))
        told[0] = (99, True)
        self.assertEqual((one, other), before)
        self.assertEqual(strip_of(one, other), strip_by_hand((2, 1, 9, 3), 4))
        bare = strip((), 4)
        self.assertIsNot(strip_of(bare, one), one)
        self.assertIsNot(strip_of(one, bare), one)


class Least(unittest.TestCase):
    def check(self, word, most):
        wanted = strip_by_hand(word, most)
        told = least_word(word, most)
        self.assertIs(type(told), tuple)
        for grains in range(len(word) + 1):
            for other in words_of(grains, most):
                if strip_by_hand(other, most) == wanted:
                    self.assertEqual(told, other, (word, most))
                    return
        self.fail((word, most))

    def test_beside_all_words(self):
        for most in (1, 2, 3):
            for grains in range(6):
                for word in words_of(grains, most):
                    self.check(word, most)
        for most in (4, 5):
            for grains in range(4):
                for word in words_of(grains, most):
                    self.check(word, most)

    def test_longer_words(self):
        source = random.Random(74)
        for most in (1, 2, 3, 4, 5):
            for _ in range(40):
                self.check(tuple(source.randint(1, most) for _ in range(source.randint(4, 12))), most)

    def test_told_by_hand(self):
        self.assertEqual(least_word((), 5), ())
        self.assertEqual(least_word((1, 1), 1), ())
        self.assertEqual(least_word((1, 1, 1), 1), (1,))
        self.assertEqual(least_word((2, 2), 2), ())
        self.assertEqual(least_word((5,) * 12, 5), ())
        self.assertEqual(least_word((5,) * 11, 5), (5,))

    def test_itself_again(self):
        for most in (2, 3, 4, 5):
            for word in words_of(3, most):
                told = least_word(word, most)
                self.assertEqual(least_word(told, most), told)
                self.assertTrue(acts_alike(word, told, most))

    def test_by_name(self):
        self.assertEqual(least_word(word=(2, 2), most=2), ())
        self.assertEqual(least_word(most=1, word=(1, 1, 1)), (1,))


if __name__ == "__main__":
    unittest.main()
