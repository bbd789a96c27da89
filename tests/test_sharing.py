import copy
import itertools
import random
import unittest
from fractions import Fraction

from netsbyhand import shares_by_ways
from panfalls.nets import is_tree
from panfalls.shares import shares
from panfalls.sharing import fewest_balances, is_shares, tree_of
from things import ODD_THINGS

HALVES = (("a", (1, 2)), ("b", (1, 2)))
NAMES = ["a", "ab", "b", "c", "zz", "zzzzzzzz"]


def shares_of(parts, whole, names=NAMES):
    """SHARES of so many parts of the whole each."""
    told = []
    for name, part in zip(names, parts):
        fraction = Fraction(part, whole)
        told.append((name, (fraction.numerator, fraction.denominator)))
    return tuple(told)


def sums(many, whole):
    """All tuples of so many numbers from 1 that add up to the whole."""
    for cuts in itertools.combinations(range(1, whole), many - 1):
        edges = (0,) + cuts + (whole,)
        yield tuple(edges[at + 1] - edges[at] for at in range(many))


def some_sums(seed):
    source = random.Random(seed)
    for many in range(2, 7):
        for whole in (8, 16, 32):
            for _ in range(60):
                cuts = sorted(source.sample(range(1, whole), many - 1))
                edges = [0] + cuts + [whole]
                yield tuple(edges[at + 1] - edges[at] for at in range(many)), whole


class Looked(unittest.TestCase):
    def refuse(self, *things):
        for thing in things:
            self.assertIs(is_shares(thing), False, thing)

    def test_shares(self):
        self.assertIs(is_shares(HALVES), True)
        self.assertIs(is_shares(thing=HALVES), True)
        self.assertIs(is_shares((("a", (1, 2)), ("b", (1, 4)), ("c", (1, 4)))), True)
        self.assertIs(is_shares((("ab", (3, 4)), ("b", (1, 4)))), True)
        self.assertIs(is_shares((("a", (1, 32)), ("aa", (31, 32)))), True)
        for parts, whole in some_sums(171):
            self.assertIs(is_shares(shares_of(parts, whole)), True)

    def test_no_bounds_are_looked_at(self):
        for power in (6, 40, 1000, 20000):
            great = 2 ** power
            self.assertIs(is_shares((("a", (1, great)), ("b", (great - 1, great)))), True)
            self.refuse((("a", (1, great)), ("b", (great - 3, great))))
        names = ["".join(pair) for pair in itertools.product("abcdefghijklmnop", repeat=2)]
        self.assertIs(is_shares(tuple((name, (1, 256)) for name in names)), True)

    def test_one_pair_and_none(self):
        self.refuse((("a", (1, 1)),), (("a", (1, 2)),), (), [])

    def test_names_that_dont_rise(self):
        self.refuse(
            (("b", (1, 2)), ("a", (1, 2))), (("a", (1, 2)), ("a", (1, 2))), (("ab", (1, 2)), ("a", (1, 2))),
            (("a", (1, 2)), ("c", (1, 4)), ("b", (1, 4))), (("a", (1, 2)), ("b", (1, 4)), ("b", (1, 4))),
            (("b", (1, 2)), ("b", (1, 4)), ("c", (1, 4))),
        )

    def test_wrong_names(self):
        for wrong in ("", "A", "aB", "abcdefghi", "a1", "a ", "a\n", "\u00e4", 0, 1, True, None, (), ("a",), ["a"]):
            self.refuse(((wrong, (1, 2)), ("b", (1, 2))), (("a", (1, 2)), (wrong, (1, 2))))

    def test_parts_not_in_lowest_terms(self):
        self.refuse(
            (("a", (2, 4)), ("b", (1, 2))), (("a", (1, 2)), ("b", (2, 4))), (("a", (2, 4)), ("b", (2, 4))),
            (("a", (16, 32)), ("b", (1, 2))), (("a", (6, 8)), ("b", (1, 4))),
        )

    def test_bottoms_that_are_no_powers_of_two(self):
        self.refuse(
            (("a", (1, 3)), ("b", (2, 3))), (("a", (1, 2)), ("b", (1, 3)), ("c", (1, 6))),
            (("a", (1, 6)), ("b", (5, 6))), (("a", (1, 12)), ("b", (11, 12))), (("a", (5, 24)), ("b", (19, 24))),
        )

    def test_bottoms_of_0_and_below(self):
        self.refuse(
            (("a", (-1, -2)), ("b", (1, 2))), (("a", (1, 0)), ("b", (1, 2))), (("a", (0, 0)), ("b", (1, 1))),
            (("a", (1, -2)), ("b", (3, 2))), (("a", (1, -1)), ("b", (2, 1))),
        )

    def test_fractions_of_0_and_below(self):
        self.refuse(
            (("a", (0, 1)), ("b", (1, 1))), (("a", (1, 1)), ("b", (0, 1))), (("a", (-1, 2)), ("b", (3, 2))),
            (("a", (0, 1)), ("b", (1, 2)), ("c", (1, 2))), (("a", (-1, 1)), ("b", (2, 1))), (("a", (0, 2)), ("b", (1, 1))),
        )

    def test_true_for_1(self):
        self.refuse(
            (("a", (True, 2)), ("b", (1, 2))), (("a", (1, 2)), ("b", (True, 2))), (("a", (True, 2)), ("b", (True, 2))),
            (("a", (True, True)), ("b", (False, True))), (("a", (1, True)), ("b", (0, 1))),
        )

    def test_lists_for_tuples(self):
        self.refuse(
            list(HALVES), (["a", (1, 2)], ["b", (1, 2)]), (("a", [1, 2]), ("b", [1, 2])), [["a", [1, 2]], ["b", [1, 2]]],
            (("a", (1, 2)), ("b", [1, 2])), (("a", (1, 2)), ["b", (1, 2)]),
        )

    def test_sums_above_and_below_1(self):
        self.refuse(
            (("a", (1, 2)), ("b", (1, 4))), (("a", (1, 2)), ("b", (3, 4))), (("a", (1, 1)), ("b", (1, 1))),
            (("a", (1, 1)), ("b", (1, 2))), (("a", (1, 32)), ("b", (1, 32))), (("a", (3, 2)), ("b", (1, 2))),
            (("a", (1, 2)), ("b", (1, 2)), ("c", (1, 32))),
        )
        for parts, whole in some_sums(172):
            told = shares_of(parts, whole)
            self.refuse(told[1:], told[:-1], told + (("zzzzzzzz", (1, 2)),))

    def test_pairs_of_one_or_three_parts(self):
        self.refuse(
            (("a",), ("b",)), (("a", 1, 2), ("b", 1, 2)), (("a", (1, 2), 0), ("b", (1, 2))), (("a", (1,)), ("b", (1, 2))),
            (("a", (1, 2, 1)), ("b", (1, 2))), (("a", ()), ("b", (1, 1))), ((), ()),
        )

    def test_other_things(self):
        self.refuse(*ODD_THINGS)
        self.refuse(0, 1, "ab", ("a", "b"), (1, 2), ((1, 2), (1, 2)), ("ab", "cd"), (HALVES, HALVES), (HALVES,))
        for wrong in (None, True, 1, "1/2", "12", (None, 2), ("1", "2"), (1, None), ((1,), (2,)), ([1], 2)):
            self.refuse((("a", wrong), ("b", (1, 2))), (("a", (1, 2)), ("b", wrong)))

    def test_what_is_looked_at_stays(self):
        for thing in ([["a", [1, 2]], ["b", [1, 2]]], (["a", [1, 2]], ("b", [1, 2]))):
            before = copy.deepcopy(thing)
            is_shares(thing)
            self.assertEqual(thing, before)


class Trees(unittest.TestCase):
    def check(self, told, balances):
        self.assertIs(is_shares(told), True, told)
        self.assertEqual(fewest_balances(told), balances, told)
        tree = tree_of(told)
        self.assertIs(is_tree(tree), True, (told, tree))
        self.assertEqual(len(tree), balances, (told, tree))
        self.assertEqual(tuple(shares(tree)), told, tree)
        by_ways = sorted(shares_by_ways(tree).items())
        self.assertEqual(by_ways, [(name, Fraction(*fraction)) for name, fraction in told])

    def test_told_by_hand(self):
        self.check(HALVES, 1)
        self.check((("a", (1, 2)), ("b", (1, 4)), ("c", (1, 4))), 2)
        self.check((("a", (3, 4)), ("b", (1, 4))), 2)
        self.check((("a", (3, 8)), ("b", (5, 8))), 3)
        self.check((("a", (7, 8)), ("b", (1, 8))), 3)
        self.check((("a", (11, 32)), ("b", (21, 32))), 5)

    def test_all_alike(self):
        names = ["".join(pair) for pair in itertools.product("abcdef", repeat=2)]
        for power in range(1, 6):
            many = 2 ** power
            self.check(tuple((name, (1, many)) for name in names[:many]), many - 1)

    def test_one_alone_and_the_rest(self):
        for power in range(1, 6):
            whole = 2 ** power
            self.check(shares_of((1, whole - 1), whole), power)
            self.check(shares_of((whole - 1, 1), whole), power)

    def test_halves_fourths_and_so_on(self):
        for power in range(1, 6):
            parts = [2 ** at for at in range(power - 1, -1, -1)] + [1]
            self.check(shares_of(parts, 2 ** power), power)
            self.check(shares_of(parts[::-1], 2 ** power), power)

    def test_all_of_two_and_three_names(self):
        for many, wholes in ((2, (2, 4, 8, 16, 32)), (3, (4, 8, 16, 32)), (4, (4, 8, 16))):
            for whole in wholes:
                for parts in sums(many, whole):
                    ones = sum(bin(part).count("1") for part in parts)
                    self.check(shares_of(parts, whole), ones - 1)

    def test_some_of_two_to_six_names(self):
        for parts, whole in some_sums(173):
            self.check(shares_of(parts, whole), sum(bin(part).count("1") for part in parts) - 1)

    def test_no_tree_has_fewer(self):
        fewest = {}

        def of(branch, part, told):
            if isinstance(branch, str):
                told[branch] = told.get(branch, 0) + part
            else:
                of(branch[0], part / 2, told)
                of(branch[1], part / 2, told)

        by_balances = [["a", "b", "c"]]
        for many in range(1, 5):
            by_balances.append([
                (left, right) for ahead in range(many)
                for left in by_balances[ahead] for right in by_balances[many - 1 - ahead]
            ])
            for branch in by_balances[many]:
                told = {}
                of(branch, Fraction(1), told)
                if len(told) > 1:
                    key = tuple((name, (part.numerator, part.denominator)) for name, part in sorted(told.items()))
                    fewest.setdefault(key, many)
        self.assertGreater(len(fewest), 100)
        for told, many in fewest.items():
            self.assertEqual(fewest_balances(told), many, told)

    def test_by_name(self):
        self.assertEqual(fewest_balances(shares=HALVES), 1)
        self.assertEqual(sorted(tree_of(shares=HALVES)[0]), ["a", "b"])

    def test_asking_changes_nothing(self):
        for parts, whole in itertools.islice(some_sums(174), 0, None, 20):
            told = shares_of(parts, whole)
            self.assertEqual(tree_of(told), tree_of(told))
            self.assertIs(type(tree_of(told)), tuple)
            self.assertEqual(fewest_balances(told), fewest_balances(told))


if __name__ == "__main__":
    unittest.main()
