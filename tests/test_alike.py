import itertools
import random
import unittest

from byhand import small_words
from netsbyhand import (
    ALIKE_EXITS, BOTH_TO_ONE, CHAIN, NEEDLESS, ONE, TREES, TWO_LEVELS, WIDE, drop_all_through, some_standing,
)
from panfalls.alike import alike, parting_word
from panfalls.faces import crossed, face
from panfalls.falls import is_word
from panfalls.netfalls import falls_of
from panfalls.nets import begun
from treesbyhand import (
    face_by_hand, lone_exit, random_standing_tree, some_standing_trees, told_in_some_order, told_otherwise,
)

FAR = 10 ** 12
# Five levels; the deepest balance is balance 5.
DEEPEST = ((1, "a"), ("b", 2), (3, 4), ("a", 5), ("b", "c"), ("c", "a"))
# Five levels, all of whose exits but the deepest are one.
HIDDEN = ((1, "a"), (2, "a"), (3, "a"), (4, "a"), ("a", "b"))


def same_by_hand(one, its, other, others):
    if lone_exit(one) or lone_exit(other):
        return lone_exit(one) == lone_exit(other)
    return face_by_hand(one, its) == face_by_hand(other, others)


def swapped(parts, at, part):
    return parts[:at] + (part,) + parts[at + 1:]


def near_ones(net, standing):
    """The tree with one thing changed, so little as can be."""
    for balance in range(len(net)):
        now = standing[balance]
        for other in (now + 2, now - 2, -now):
            yield net, swapped(standing, balance, other)
        yield swapped(net, balance, net[balance][::-1]), standing
        for pan in (0, 1):
            if isinstance(net[balance][pan], str):
                for name in "abz":
                    yield swapped(net, balance, swapped(net[balance], pan, name)), standing


class Alike(unittest.TestCase):
    def check(self, one, its, other, others):
        expected = same_by_hand(one, its, other, others)
        about = (one, its, other, others)
        self.assertIs(alike(*about), expected, about)
        self.assertIs(alike(other, others, one, its), expected, about)
        for first, second in ((about[:2], about[2:]), (about[2:], about[:2])):
            word = parting_word(*first, *second)
            if expected:
                self.assertIsNone(word, about)
            else:
                self.assertIs(is_word(word), True, about)
                names = falls_of(*first, word)[0]
                self.assertEqual(names, drop_all_through(*first, word)[0])
                self.assertNotEqual(names, falls_of(*second, word)[0], about)
        return expected

    def test_told_by_hand(self):
        self.assertIs(alike(ONE, (-1,), ONE, (-1,)), True)
        self.assertIs(alike(ONE, (-1,), (("b", "a"),), (1,)), True)
        self.assertIs(alike(ONE, (-1,), ONE, (1,)), False)
        self.assertIs(alike(ONE, (-1,), ONE, (-3,)), False)
        self.assertIs(alike(ONE, (-1,), (("b", "a"),), (-1,)), False)
        self.assertIs(alike(ONE, (-1,), NEEDLESS, (-1, 7)), True)
        self.assertIs(alike(one=ONE, its=(-1,), other=BOTH_TO_ONE, others=(-1,)), False)
        self.assertIs(alike(others=(1,), other=(("b", "a"),), its=(-1,), one=ONE), True)

    def test_one_exit_alone(self):
        lone = [
            (BOTH_TO_ONE, (-1,)), (BOTH_TO_ONE, (7,)), (((1, "a"), ("a", "a")), (3, -5)),
            (((1, 2), ("a", "a"), ("a", "a")), (-3, -5, FAR + 1)), (((1, "a"), (2, "a"), ("a", "a")), (9, 9, 9)),
        ]
        for one, other in itertools.product(lone, lone):
            self.assertIs(alike(*one, *other), True)
            self.assertIsNone(parting_word(*one, *other))
        for one in lone:
            for other in ((("b", "b"),), (-1,)), (ONE, (-1,)), (ONE, (99,)), (HIDDEN, (-9, -7, -5, -3, -1)):
                self.assertIs(self.check(*one, *other), False)

    def test_parting_word_by_name(self):
        self.assertIsNone(parting_word(one=ONE, its=(-1,), other=ONE, others=(-1,)))
        word = parting_word(others=(-3,), other=ONE, its=(-1,), one=ONE)
        self.assertNotEqual(falls_of(ONE, (-1,), word)[0], falls_of(ONE, (-3,), word)[0])
        self.assertIs(type(word), tuple)

    def test_beside_faces_where_they_are_no_lone_exits(self):
        trees = some_standing_trees(151, 70, size=3, most_balances=3, names="ab")
        told = {True: 0, False: 0}
        for one, other in itertools.product(trees, trees):
            if not lone_exit(one[0]) and not lone_exit(other[0]):
                self.assertIs(alike(*one, *other), face(*one) == face(*other))
                told[face(*one) == face(*other)] += 1
        self.assertGreater(min(told.values()), 30)

    def test_pairs_of_trees(self):
        told = {True: 0, False: 0}
        for size, most, names in ((1, 2, "ab"), (3, 3, "ab"), (9, 4, "abc"), (401, 8, "abc"), (FAR + 1, 8, "ab")):
            trees = some_standing_trees(152 + size, 40, size=size, most_balances=most, names=names)
            for one, other in itertools.product(trees, trees):
                told[self.check(*one, *other)] += 1
        self.assertGreater(min(told.values()), 400)

    def test_trees_told_otherwise(self):
        source = random.Random(153)
        for size in (1, 9, 401, FAR + 1):
            for net, standing in some_standing_trees(154 + size, 120, size=size):
                self.assertIs(self.check(net, standing, *told_otherwise(source, net, standing)), True)

    def test_crossed_with_and_without_its_standing(self):
        source = random.Random(155)
        for net in TREES + [DEEPEST, HIDDEN]:
            standing = some_standing(source, net, 99)
            for balance in range(len(net)):
                other, others = crossed(net, standing, balance)
                self.assertIs(self.check(net, standing, other, others), True)
                without_its_standing = self.check(net, standing, other, standing)
                if net in (TWO_LEVELS, CHAIN, DEEPEST, HIDDEN):
                    self.assertIs(without_its_standing, False)

    def test_near_pairs(self):
        source = random.Random(156)
        apart = 0
        for net in TREES + [DEEPEST, HIDDEN]:
            for size in (1, 9, 401, 10 ** 9 + 1, FAR + 1):
                standing = some_standing(source, net, size)
                for other, others in near_ones(net, standing):
                    apart += not self.check(net, standing, other, others)
        self.assertGreater(apart, 1000)

    def test_near_pairs_of_many_trees(self):
        source = random.Random(157)
        for _ in range(120):
            net, standing = random_standing_tree(source, size=source.choice((3, 25, FAR + 1)))
            for other, others in near_ones(net, standing):
                self.check(net, standing, *told_otherwise(source, other, others))

    def test_the_deepest_balance_of_five_levels(self):
        for net, balance in ((DEEPEST, 5), (HIDDEN, 4), (CHAIN, 4)):
            for size in (1, 399, 10 ** 9 + 1, FAR - 1):
                standing = (size,) * len(net)
                for other in (size + 2, -size, size + 10 ** 9):
                    self.assertIs(self.check(net, standing, net, swapped(standing, balance, other)), False)

    def test_what_is_behind_one_pan_becomes_what_is_behind_the_other(self):
        # A grain that makes the roots unlike leaves the two pans' balances alike here.
        net = ((1, 2), ("x", "y"), ("y", "x"))
        for one, other in itertools.product(range(1, 9, 2), repeat=2):
            for near, far in itertools.product((-5, -3, -1, 1, 3, 5), repeat=2):
                self.check(net, (-one, near, far), net, (-other, near, far))

    def test_all_words_that_are_tried_go_out_alike(self):
        words = small_words(5, 3)
        trees = some_standing_trees(158, 25, size=3, most_balances=3, names="ab")
        source = random.Random(159)
        for net, standing in trees:
            other, others = told_otherwise(source, net, standing)
            self.assertIs(alike(net, standing, other, others), True)
            for word in words:
                self.assertEqual(drop_all_through(net, standing, word)[0], drop_all_through(other, others, word)[0])

    def test_unlike_ones_are_never_told_alike_by_words_that_are_tried(self):
        words = [(1,) * 6, (2,) * 6, (3, 1, 2, 1, 3, 2), (1, 2, 3, 4, 5), (7, 1, 1, 1, 1, 9, 2)]
        trees = some_standing_trees(160, 80, size=5, most_balances=4, names="ab")
        seen = 0
        for one, other in itertools.combinations(trees, 2):
            if any(drop_all_through(*one, word)[0] != drop_all_through(*other, word)[0] for word in words):
                self.assertIs(alike(*one, *other), False)
                seen += 1
        self.assertGreater(seen, 500)

    def test_words_are_no_longer_than_may_be_handed_in(self):
        source = random.Random(161)
        full = list("ab" * 8)
        for _ in range(4):
            full = [[-1, left, right] for left, right in zip(full[::2], full[1::2])]
        net, standing = told_in_some_order(None, full[0])
        for other, others in near_ones(net, standing):
            word = parting_word(net, standing, other, others)
            if word is not None:
                self.assertLessEqual(len(word), 400)
                self.assertNotEqual(falls_of(net, standing, word)[0], falls_of(other, others, word)[0])
        for one in (ALIKE_EXITS, WIDE, CHAIN):
            word = parting_word(one, some_standing(source, one, FAR + 1), one, begun(one))
            self.assertLessEqual(len(word), 400)

    def test_asking_changes_nothing(self):
        for net in TREES:
            one, other = begun(net), tuple(-3 for _ in net)
            self.assertEqual(parting_word(net, one, net, other), parting_word(net, one, net, other))
            self.assertEqual(alike(net, one, net, other), alike(net, one, net, other))


if __name__ == "__main__":
    unittest.main()
