import random
import unittest

from byhand import NAMED_WORDS, drop_each, settled_round_by_round, small_words, some_words
from panfalls.meeting import apart_paper, meeting
from panfalls.meetingcheck import shows_apart
from panfalls.settling import standing_at
from panfalls.staying import length

WORDS = NAMED_WORDS + small_words(3, 4) + some_words(41, 120)
SIZES = [1, 3, 5, 7, 11, 23, 25, 45, 47, 49, 61, 199, 399, 401]
FAR = 10 ** 9


def met(one, other, many):
    if one == other:
        return ("one", many)
    if one == -other:
        return ("mirrored", many)
    return None


def meeting_by_hand(one, other, word):
    """The two gone through grain by grain, by whole rounds until both have settled."""
    if not word:
        return met(one, other, 0) or ("apart",)
    rounds = max(settled_round_by_round(start, word)[0] for start in (one, other))
    many = 0
    for weight in word * rounds:
        if met(one, other, many):
            break
        one, other = drop_each(one, (weight,))[0], drop_each(other, (weight,))[0]
        many += 1
    return met(one, other, many) or ("apart",)


class Meeting(unittest.TestCase):
    def check(self, one, other, word):
        expected = meeting_by_hand(one, other, word)
        told = meeting(one, other, word)
        self.assertIs(type(told), tuple)
        self.assertEqual(told, expected, (one, other, word))
        return told

    def test_told_by_hand(self):
        # 1 falls to -1 and 3 to 1 by a grain of 1; 1 and -3 come to -1 both.
        self.assertEqual(meeting(1, 3, (1,)), ("mirrored", 1))
        self.assertEqual(meeting(1, -3, (1,)), ("one", 1))
        self.assertEqual(meeting(-1, 3, (1,)), ("one", 1))
        # By grains of 2 sizes 1 and 3 are exchanged for ever.
        self.assertEqual(meeting(1, 3, (2,)), ("apart",))
        self.assertEqual(meeting(-3, 1, (2,)), ("apart",))
        # 1, 7: behind the first grain of 2 they are -3, 3.
        self.assertEqual(meeting(1, 7, (2, 9, 9)), ("mirrored", 1))
        # 1, 5: -3, 1, then 1, -3, and so on.
        self.assertEqual(meeting(1, 5, (2,)), ("apart",))
        self.assertEqual(meeting(9, 11, (5,)), ("mirrored", 1))
        self.assertEqual(meeting(9, -11, (5,)), ("one", 1))

    def test_beside_grain_by_grain(self):
        source = random.Random(42)
        kinds = {"one": 0, "mirrored": 0, "apart": 0}
        for word in WORDS:
            for _ in range(12):
                one, other = (source.choice(SIZES) * source.choice((1, -1)) for _ in range(2))
                kinds[self.check(one, other, word)[0]] += 1
        self.assertGreater(min(kinds.values()), 50)

    def test_all_small_starts(self):
        for word in ((1, 2), (2, 1), (3,), (5, 4), (4, 1, 2), (7, 3, 3, 5), (6, 6, 1)):
            for one in range(-15, 16, 2):
                for other in range(-15, 16, 2):
                    self.check(one, other, word)

    def test_amid_a_round(self):
        amid = set()
        for word in some_words(43, 200):
            for one, other in ((1, 2 * max(word) + 1), (3, -19), (-5, 99), (21, 23)):
                told = self.check(one, other, word)
                if told[0] != "apart":
                    amid.add(told[1] % len(word))
        self.assertGreaterEqual(len(amid), 8)

    def test_at_once(self):
        for word in WORDS + [()]:
            for size in SIZES + [FAR - 1, FAR + 1]:
                self.assertEqual(meeting(size, size, word), ("one", 0))
                self.assertEqual(meeting(-size, -size, word), ("one", 0))
                self.assertEqual(meeting(size, -size, word), ("mirrored", 0))
                self.assertEqual(meeting(-size, size, word), ("mirrored", 0))

    def test_bare_word(self):
        for one in (-FAR - 1, -401, -1, 1, 3, FAR - 1):
            for other in (-FAR + 1, -3, -1, 1, 401, FAR + 1):
                self.check(one, other, ())

    def test_far_starts_beside_grain_by_grain(self):
        for word in ((24, 23), (24,) * 12, (1, 24, 7), (5, 5, 4, 9), (13, 2, 2), (3,)):
            for one, other in ((20001, 20003), (-20001, 20047), (19999, 1), (-3, -34567), (47, 30001)):
                self.check(one, other, word)

    def test_both_far_as_rounds_ahead_of_near(self):
        # As long as all grains of a round fall to one side both come nearer alike.
        source = random.Random(44)
        for word in WORDS:
            step = 2 * sum(word)
            rounds = (FAR - 1000) // step
            for _ in range(3):
                one, other = source.choice(SIZES), source.choice(SIZES)
                near = self.check(one, other, word)
                told = near[:1] + tuple(many + rounds * len(word) for many in near[1:])
                if one == other:
                    told = ("one", 0)
                self.assertEqual(meeting(one + rounds * step, other + rounds * step, word), told)
                mirrored = {"one": "mirrored", "mirrored": "one", "apart": "apart"}[told[0]]
                far = meeting(one + rounds * step, -other - rounds * step, word)
                self.assertEqual(far, (mirrored,) + told[1:])

    def test_one_far_and_one_settled(self):
        source = random.Random(45)
        for word in WORDS:
            settled = 1
            for _ in range(max(word)):
                settled = drop_each(settled, word)[0]
            again = length(word)
            rounds = (FAR - 1000) // (2 * sum(word) * again) * again
            for _ in range(3):
                one = 2 * max(word) + 2 * source.randint(0, 200) + 1
                near = self.check(one, settled, word)
                told = near[:1] + tuple(many + rounds * len(word) for many in near[1:])
                far = one + rounds * 2 * sum(word)
                self.assertEqual(meeting(far, settled, word), told)
                self.assertEqual(meeting(-far, -settled, word), told)

    def test_farthest_starts_meet_just_there(self):
        source = random.Random(46)
        for word in WORDS:
            for _ in range(3):
                one = source.choice((1, -1)) * (2 * source.randint(0, FAR // 2) + 1)
                other = source.choice((1, -1)) * (2 * source.randint(0, FAR // 2) + 1)
                told = meeting(one, other, word)
                self.assertEqual(told, meeting(other, one, word))
                if told != ("apart",):
                    first, second = (standing_at(start, word, told[1]) for start in (one, other))
                    self.assertEqual(met(first, second, told[1]), told)
                    first, second = (standing_at(start, word, told[1] - 1) for start in (one, other))
                    self.assertIsNone(met(first, second, 0))

    def test_by_name(self):
        self.assertEqual(meeting(one=1, other=-3, word=(1,)), ("one", 1))
        self.assertEqual(meeting(word=(1,), other=3, one=1), ("mirrored", 1))


class Paper(unittest.TestCase):
    def check(self, one, other, word):
        paper = apart_paper(one, other, word)
        if meeting(one, other, word) == ("apart",):
            self.assertIs(type(paper), tuple)
            self.assertIs(shows_apart(one, other, word, paper), True, (one, other, word, paper))
        else:
            self.assertIsNone(paper, (one, other, word))
        return paper

    def test_just_where_apart(self):
        source = random.Random(47)
        told = {True: 0, False: 0}
        for word in WORDS + [()] * 40:
            for _ in range(8):
                one, other = (source.choice(SIZES + [FAR - 1, FAR + 1]) * source.choice((1, -1)) for _ in range(2))
                told[self.check(one, other, word) is None] += 1
        self.assertGreater(min(told.values()), 100)

    def test_far_apart(self):
        for one, other in ((FAR + 1, 1), (-FAR - 1, FAR - 1), (1, -FAR + 1)):
            self.assertIsNotNone(self.check(one, other, (24,)))
            self.assertIsNone(self.check(one, other, (1,)))

    def test_bare_word(self):
        self.assertIsNone(apart_paper(7, 7, ()))
        self.assertIsNone(apart_paper(7, -7, ()))
        for one, other in ((1, 3), (-3, 1), (FAR + 1, -5), (401, 399)):
            self.assertIsNotNone(self.check(one, other, ()))

    def test_by_name(self):
        paper = apart_paper(one=1, other=3, word=(2,))
        self.assertEqual(apart_paper(word=(2,), other=3, one=1), paper)
        self.assertIs(shows_apart(one=1, other=3, word=(2,), thing=paper), True)
        self.assertIsNone(apart_paper(one=1, other=3, word=(1,)))


if __name__ == "__main__":
    unittest.main()
