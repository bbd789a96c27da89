import random
import unittest

from panfalls.falls import ahead_of, fall, falls, is_standing, is_word, lighter, pounds
from panfalls.words import LEFT, RIGHT
from things import ODD_THINGS, nested

FAR = 10 ** 12
STANDINGS = [-FAR + 1, -FAR - 1, -401, -25, -7, -3, -1, 1, 3, 7, 25, 401, FAR - 1, FAR + 1]
WEIGHTS = [1, 2, 3, 4, 12, 13, 24, 200, 201, FAR // 2, FAR - 1, FAR]


def random_words(seed, many, most_grains, most_weight):
    source = random.Random(seed)
    for _ in range(many):
        grains = source.randint(0, most_grains)
        word = tuple(source.randint(1, most_weight) for _ in range(grains))
        yield source.randrange(-4 * most_weight, 4 * most_weight) * 2 + 1, word


class Looked(unittest.TestCase):
    def test_standings(self):
        for thing in (1, -1, 3, -3, 399, -401, FAR + 1, -FAR - 1, 10 ** 40 + 1, -10 ** 40 - 1):
            self.assertIs(is_standing(thing), True, thing)

    def test_even_numbers_are_no_standings(self):
        for thing in (0, 2, -2, 400, FAR, -FAR, 10 ** 40):
            self.assertIs(is_standing(thing), False, thing)

    def test_other_things_are_no_standings(self):
        for thing in ODD_THINGS + [(), (1,), (1, 3)]:
            self.assertIs(is_standing(thing), False, thing)

    def test_words(self):
        for thing in ((), (1,), (2, 1), (1, 1, 1), (24,) * 12, (FAR,) * 400, (10 ** 40,), (7,) * 1000):
            self.assertIs(is_word(thing), True, thing)

    def test_other_things_are_no_words(self):
        for thing in ODD_THINGS + [0, 1, 3, -1, 2]:
            self.assertIs(is_word(thing), False, thing)

    def test_lists_of_weights_are_no_words(self):
        for thing in ([], [1], [2, 1], [FAR]):
            self.assertIs(is_word(thing), False, thing)

    def test_one_wrong_part_anywhere_makes_no_word(self):
        for wrong in (0, -1, True, False, None, "", "1", (), (1,), [], [1]):
            for at in range(4):
                thing = (3, 2, 1)[:at] + (wrong,) + (3, 2, 1)[at:]
                self.assertIs(is_word(thing), False, thing)

    def test_tuples_in_tuples_are_no_words(self):
        for depth in range(2, 11):
            self.assertIs(is_word(nested(depth, 1, tuple)), False)

    def test_by_name(self):
        self.assertIs(is_standing(thing=3), True)
        self.assertIs(is_standing(thing=True), False)
        self.assertIs(is_word(thing=(3,)), True)
        self.assertIs(is_word(thing=[3]), False)

    def test_what_is_looked_at_stays(self):
        thing = [1, [2, (3, [4])]]
        is_standing(thing)
        is_word(thing)
        self.assertEqual(thing, [1, [2, (3, [4])]])


class Falling(unittest.TestCase):
    def test_lighter(self):
        for standing in STANDINGS:
            self.assertEqual(lighter(standing), LEFT if standing < 0 else RIGHT)
        self.assertEqual(lighter(standing=-1), "left")
        self.assertEqual(lighter(standing=1), "right")

    def test_fall_told_by_hand(self):
        self.assertEqual(fall(-1, 1), ("left", 1))
        self.assertEqual(fall(1, 1), ("right", -1))
        self.assertEqual(fall(-1, 5), ("left", 9))
        self.assertEqual(fall(1, 5), ("right", -9))
        self.assertEqual(fall(-7, 2), ("left", -3))
        self.assertEqual(fall(7, 2), ("right", 3))
        self.assertEqual(fall(-FAR - 1, FAR), ("left", FAR - 1))
        self.assertEqual(fall(FAR + 1, FAR), ("right", 1 - FAR))
        self.assertEqual(fall(standing=3, weight=4), ("right", -5))
        self.assertEqual(fall(weight=4, standing=-3), ("left", 5))

    def test_fall_goes_to_the_lighter_pan(self):
        for standing in STANDINGS:
            for weight in WEIGHTS:
                told = fall(standing, weight)
                self.assertIs(type(told), tuple)
                if standing < 0:
                    self.assertEqual(told, (LEFT, standing + 2 * weight))
                else:
                    self.assertEqual(told, (RIGHT, standing - 2 * weight))
                self.assertTrue(is_standing(told[1]))

    def test_falls_told_by_hand(self):
        self.assertEqual(falls(-1, (1, 1, 2, 3)), (["left", "right", "left", "right"], -3))
        self.assertEqual(falls(1, (1, 1, 2, 3)), (["right", "left", "right", "left"], 3))
        self.assertEqual(falls(-9, (2, 2, 2)), (["left", "left", "left"], 3))
        self.assertEqual(falls(standing=9, word=(2, 2, 2)), (["right", "right", "right"], -3))
        self.assertEqual(falls(word=(), standing=9), ([], 9))

    def test_bare_word(self):
        for standing in STANDINGS:
            self.assertEqual(falls(standing, ()), ([], standing))
            self.assertEqual(pounds(standing, ()), (0, 0))

    def check_grain_by_grain(self, standing, word):
        sides, now, fallen = [], standing, {LEFT: 0, RIGHT: 0}
        for weight in word:
            side, now = fall(now, weight)
            self.assertTrue(is_standing(now))
            sides.append(side)
            fallen[side] += weight
        told = falls(standing, word)
        self.assertEqual(told, (sides, now))
        self.assertIs(type(told), tuple)
        self.assertIs(type(told[0]), list)
        both = pounds(standing, word)
        self.assertEqual(both, (fallen[LEFT], fallen[RIGHT]))
        self.assertIs(type(both), tuple)
        self.assertEqual(sum(both), sum(word))
        self.assertEqual(standing + 2 * (both[0] - both[1]), now)

    def test_falls_and_pounds_are_fall_grain_by_grain(self):
        for standing, word in random_words(1, 400, 12, 24):
            self.check_grain_by_grain(standing, word)
        for standing, word in random_words(2, 60, 400, FAR):
            self.check_grain_by_grain(standing, word)

    def test_longest_words_and_greatest_weights(self):
        for standing in STANDINGS:
            for word in ((FAR,) * 400, (1,) * 400, tuple(range(1, 401)), (FAR, 1) * 200):
                self.check_grain_by_grain(standing, word)

    def test_pounds_told_by_hand(self):
        self.assertEqual(pounds(-1, (1, 1, 2, 3)), (3, 4))
        self.assertEqual(pounds(1, (1, 1, 2, 3)), (4, 3))
        self.assertEqual(pounds(-101, (5, 6, 7)), (18, 0))
        self.assertEqual(pounds(standing=101, word=(5, 6, 7)), (0, 18))
        self.assertEqual(pounds(-1, (FAR,) * 400), (200 * FAR, 200 * FAR))

    def test_told_lists_are_the_askers_own(self):
        first = falls(-1, (1, 2, 3))
        second = falls(-1, (1, 2, 3))
        self.assertIsNot(first[0], second[0])
        first[0].append("other")
        first[0][0] = "other"
        self.assertEqual(falls(-1, (1, 2, 3)), second)
        bare = falls(-1, ())[0]
        bare.append("other")
        self.assertEqual(falls(-1, ()), ([], -1))


class Ahead(unittest.TestCase):
    def test_of_what_fall_left_the_standing_ahead(self):
        for standing in STANDINGS:
            for weight in WEIGHTS:
                side, left = fall(standing, weight)
                self.assertEqual(ahead_of(left, side, weight), standing)

    def test_beside_all_standings_near(self):
        for weight in range(1, 9):
            came = {fall(standing, weight): standing for standing in range(-61, 62, 2)}
            for standing in range(-41, 42, 2):
                for side in (LEFT, RIGHT):
                    self.assertEqual(ahead_of(standing, side, weight), came.get((side, standing)))

    def test_edges(self):
        for weight in WEIGHTS:
            edge = 2 * weight - 1
            self.assertEqual(ahead_of(edge, LEFT, weight), -1)
            self.assertIsNone(ahead_of(edge + 2, LEFT, weight))
            self.assertEqual(ahead_of(-edge, RIGHT, weight), 1)
            self.assertIsNone(ahead_of(-edge - 2, RIGHT, weight))

    def test_far_ones(self):
        self.assertIsNone(ahead_of(10 ** 12 + 1, "left", 24))
        self.assertEqual(ahead_of(10 ** 12 + 1, "right", 24), 10 ** 12 + 49)
        self.assertIsNone(ahead_of(-10 ** 12 - 1, "right", 24))
        self.assertEqual(ahead_of(-10 ** 12 - 1, "left", 24), -10 ** 12 - 49)

    def test_by_name(self):
        self.assertEqual(ahead_of(standing=1, side="left", weight=3), -5)
        self.assertEqual(ahead_of(weight=3, side="right", standing=1), 7)
        self.assertIsNone(ahead_of(weight=3, side="left", standing=7))


if __name__ == "__main__":
    unittest.main()
