import random
import unittest

from byhand import some_words
from netsbyhand import (
    BOTH_TO_BALANCE, BOTH_TO_ONE, CHAIN, DEEP, NAMED_NETS, NEEDLESS, ONE, TOGETHER, TREES, TWO_LEVELS, WIDE,
    drop_all_through, levels_by_ways, some_nets, some_standing,
)
from panfalls.errors import Lone, Needed
from panfalls.faces import crossed, face, needless, without
from panfalls.netfalls import falls_of
from panfalls.nets import begun, is_net, is_standing_of, is_tree
from treesbyhand import face_by_hand, lone_exit, some_standing_trees, told_otherwise

NETS = NAMED_NETS + some_nets(131, 150)
FAR = 10 ** 12


def cases(seed):
    source = random.Random(seed)
    for net in NETS:
        for size in (1, 9, 401, FAR + 1):
            yield net, some_standing(source, net, size)


def words_for(seed):
    """Words of small weights, and of weights as great as sizes may be, to 400 grains."""
    source = random.Random(seed)
    great = [tuple(source.randint(1, FAR) for _ in range(source.randint(1, 40))) for _ in range(10)]
    return some_words(seed, 20) + great + [(1,) * 400, (FAR, 1) * 50]


def net_with_needless(source, net, standing):
    """The net with a balance put in whose pans both have one lead, and its number."""
    at = source.randrange(len(net) + 1)
    if at == 0:
        pairs = [(0, 0)] + list(net)
        lead = 0
    else:
        leads = [(balance, pan) for balance in range(at) for pan in (0, 1)
                 if isinstance(net[balance][pan], str) or net[balance][pan] >= at]
        if not leads:
            return None
        balance, pan = source.choice(leads)
        lead = net[balance][pan]
        pairs = [list(pair) for pair in net]
        pairs[balance][pan] = "here"
        pairs.insert(at, [lead, lead])
    told = []
    for number, pair in enumerate(pairs):
        told.append(tuple(
            at if part == "here" else part if isinstance(part, str) else part + (part >= at)
            for part in pair
        ))
    return tuple(told), standing[:at] + (source.choice((1, -1, 35)),) + standing[at:], at


class Crossed(unittest.TestCase):
    def test_told_by_hand(self):
        self.assertEqual(crossed(ONE, (-1,), 0), ((("b", "a"),), (1,)))
        self.assertEqual(crossed(ONE, (7,), 0), ((("b", "a"),), (-7,)))
        self.assertEqual(crossed(NEEDLESS, (-3, 5), 0), ((("b", 1), ("a", "a")), (3, 5)))
        self.assertEqual(crossed(NEEDLESS, (-3, 5), 1), (NEEDLESS, (-3, -5)))
        self.assertEqual(crossed(net=ONE, standing=(-1,), balance=0), ((("b", "a"),), (1,)))
        self.assertEqual(crossed(balance=1, standing=(-1, 3), net=BOTH_TO_BALANCE), (((1, 1), ("b", "a")), (-1, -3)))

    def test_one_balance_alone_is_changed(self):
        for net, standing in cases(132):
            for balance in range(len(net)):
                told = crossed(net, standing, balance)
                self.assertIs(type(told), tuple)
                other, after = told
                self.assertIs(is_net(other), True)
                self.assertIs(is_standing_of(other, after), True)
                for at, pair in enumerate(net):
                    self.assertEqual(other[at], pair[::-1] if at == balance else pair)
                    self.assertEqual(after[at], -standing[at] if at == balance else standing[at])

    def test_twice_it_is_as_it_was(self):
        for net, standing in cases(133):
            for balance in range(len(net)):
                self.assertEqual(crossed(*crossed(net, standing, balance), balance), (net, standing))

    def test_every_grain_goes_out_as_ahead(self):
        source = random.Random(134)
        words = words_for(135)
        for net, standing in cases(136):
            for balance in range(len(net)):
                word = source.choice(words)
                names, after = drop_all_through(net, standing, word)
                other, its = crossed(net, standing, balance)
                self.assertEqual(drop_all_through(other, its, word)[0], names)
                self.assertEqual(falls_of(other, its, word), (names, crossed(net, after, balance)[1]))


class Needless(unittest.TestCase):
    def test_told_by_hand(self):
        self.assertEqual(needless(ONE), [])
        self.assertEqual(needless(BOTH_TO_ONE), [0])
        self.assertEqual(needless(NEEDLESS), [1])
        self.assertEqual(needless(BOTH_TO_BALANCE), [0])
        self.assertEqual(needless(((1, 1), (2, 2), ("a", "a"))), [0, 1, 2])
        self.assertEqual(needless(net=((1, 2), (3, 3), ("a", "b"), ("c", "c"))), [1, 3])
        # Two balances that are alike are two.
        self.assertEqual(needless(((1, 2), ("a", "b"), ("a", "b"))), [])

    def test_each_net(self):
        seen = 0
        for net in NETS:
            told = needless(net)
            self.assertIs(type(told), list)
            self.assertEqual(told, [at for at in range(len(net)) if net[at][0] == net[at][1]])
            seen += len(told)
        self.assertGreater(seen, 50)

    def test_told_lists_are_the_askers_own(self):
        first, second = needless(NEEDLESS), needless(NEEDLESS)
        self.assertIsNot(first, second)
        first.append(0)
        first[0] = 7
        self.assertEqual(needless(NEEDLESS), [1])
        self.assertEqual(second, [1])


class Without(unittest.TestCase):
    def refuse(self, made, net, standing, balance):
        with self.assertRaises(made) as caught:
            without(net, standing, balance)
        self.assertIs(type(caught.exception), made)
        self.assertEqual(vars(caught.exception), {"what": balance})

    def test_told_by_hand(self):
        self.assertEqual(without(NEEDLESS, (-3, 5), 1), ((("a", "b"),), (-3,)))
        self.assertEqual(without(BOTH_TO_BALANCE, (-3, 5), 0), ((("a", "b"),), (5,)))
        net = ((1, 2), (3, 3), (3, "a"), ("b", "c"))
        self.assertEqual(without(net, (1, 3, 5, 7), 1), (((2, 1), (2, "a"), ("b", "c")), (1, 5, 7)))
        # Two pans lead to the one that is taken out.
        net = ((1, 2), (2, "x"), (3, 3), ("b", "c"))
        self.assertEqual(without(net, (1, 3, 5, 7), 2), (((1, 2), (2, "x"), ("b", "c")), (1, 3, 7)))
        net = ((1, 2), (2, "x"), ("y", "y"))
        self.assertEqual(without(net=net, standing=(1, 3, 5), balance=2), (((1, "y"), ("y", "x")), (1, 3)))
        self.assertEqual(without(balance=0, standing=(1, 3, 5), net=((1, 1), (2, 2), ("a", "a"))),
                         (((1, 1), ("a", "a")), (3, 5)))

    def test_what_was_put_in_is_taken_out(self):
        source = random.Random(137)
        at_first = 0
        for net, standing in cases(138):
            made = net_with_needless(source, net, standing)
            if made:
                more, its, balance = made
                self.assertIs(is_net(more), True, (net, more))
                self.assertIn(balance, needless(more))
                self.assertEqual(without(more, its, balance), (net, standing), (more, balance))
                at_first += balance == 0
        self.assertGreater(at_first, 50)

    def test_all_grains_go_out_as_ahead(self):
        source = random.Random(139)
        words = words_for(140)
        taken = 0
        for net, standing in cases(141):
            for balance in needless(net):
                if balance or not isinstance(net[0][0], str):
                    word = source.choice(words)
                    told = without(net, standing, balance)
                    self.assertIs(type(told), tuple)
                    less, its = told
                    self.assertIs(is_net(less), True)
                    self.assertIs(is_standing_of(less, its), True)
                    self.assertEqual(len(less), len(net) - 1)
                    self.assertEqual(its, standing[:balance] + standing[balance + 1:])
                    names, after = drop_all_through(net, standing, word)
                    self.assertEqual(drop_all_through(less, its, word)[0], names)
                    self.assertEqual(falls_of(less, its, word)[1], after[:balance] + after[balance + 1:])
                    taken += 1
        self.assertGreater(taken, 200)

    def test_needed(self):
        for net, standing in cases(142):
            for balance in range(len(net)):
                if net[balance][0] != net[balance][1]:
                    self.refuse(Needed, net, standing, balance)

    def test_lone(self):
        self.refuse(Lone, BOTH_TO_ONE, (-1,), 0)
        self.refuse(Lone, (("zz", "zz"),), (401,), 0)

    def test_needed_goes_ahead_of_lone(self):
        self.refuse(Needed, ONE, (-1,), 0)
        self.refuse(Needed, NEEDLESS, (-1, -1), 0)

    def test_balance_0_that_leads_further_on_is_not_lone(self):
        self.assertEqual(without(((1, 1), ("a", "a")), (9, -9), 0), (BOTH_TO_ONE, (-9,)))

    def test_each_refusal_stands_under_its_own_base_alone(self):
        self.assertEqual(Needed.__bases__, (RuntimeError,))
        self.assertEqual(Lone.__bases__, (RuntimeError,))


class Face(unittest.TestCase):
    def test_told_by_hand(self):
        self.assertEqual(face(ONE, (-1,)), (ONE, (-1,)))
        self.assertEqual(face(ONE, (5,)), ((("b", "a"),), (-5,)))
        self.assertEqual(face(BOTH_TO_ONE, (-7,)), (BOTH_TO_ONE, (-7,)))
        self.assertEqual(face(BOTH_TO_ONE, (7,)), (BOTH_TO_ONE, (-7,)))
        self.assertEqual(face(net=NEEDLESS, standing=(3, 5)), ((("b", "a"),), (-3,)))
        self.assertEqual(face(standing=(1, -3, 5), net=TWO_LEVELS), (((1, 2), ("d", "c"), ("a", "b")), (-1, -5, -3)))

    def test_one_exit_alone(self):
        # The second one shows itself as needless only behind the third one.
        self.assertEqual(face(((1, "a"), (2, "a"), ("a", "a")), (9, 3, 5)), (BOTH_TO_ONE, (-9,)))
        self.assertEqual(face(((1, 2), ("q", "q"), ("q", "q")), (-9, 3, 5)), ((("q", "q"),), (-9,)))

    def test_needless_behind_needless(self):
        self.assertEqual(face(((1, "b"), (2, "a"), ("a", "a")), (-9, 3, 5)), ((("a", "b"),), (-9,)))
        net = ((1, "b"), (2, 3), ("a", "a"), ("a", "a"))
        self.assertEqual(face(net, (-9, 3, 5, 7)), ((("a", "b"),), (-9,)))

    def test_balances_that_are_alike_are_left(self):
        net = ((1, 2), ("a", "b"), ("a", "b"))
        self.assertEqual(face(net, (-3, -5, -5)), (net, (-3, -5, -5)))

    def test_numbering(self):
        # Level by level here, the face is by what is behind the left pan first.
        net = ((1, 2), (3, 4), (5, 6), ("a", "b"), ("b", "c"), ("c", "d"), ("d", "e"))
        told = ((1, 4), (2, 3), ("a", "b"), ("b", "c"), (5, 6), ("c", "d"), ("d", "e"))
        self.assertEqual(face(net, (-1, -3, -5, -7, -9, -11, -13)), (told, (-1, -3, -7, -9, -5, -11, -13)))
        self.assertEqual(face(CHAIN, begun(CHAIN)), (CHAIN, begun(CHAIN)))

    def trees(self):
        source = random.Random(143)
        for net in TREES:
            for size in (1, 9, FAR + 1):
                yield net, some_standing(source, net, size)
        for size in (1, 3, 9, 401, FAR + 1):
            yield from some_standing_trees(144 + size, 150, size=size)

    def test_beside_the_branch_gone_through(self):
        for net, standing in self.trees():
            self.assertEqual(face(net, standing), face_by_hand(net, standing), (net, standing))

    def test_what_a_face_is_like(self):
        for net, standing in self.trees():
            told, its = face(net, standing)
            self.assertIs(type(face(net, standing)), tuple)
            self.assertIs(is_tree(told), True)
            self.assertIs(is_standing_of(told, its), True)
            self.assertTrue(all(part < 0 for part in its))
            self.assertEqual(needless(told), [0] if lone_exit(net) else [])
            if lone_exit(net):
                self.assertEqual((told, its), (((lone_exit(net),) * 2,), (-abs(standing[0]),)))
            # Gone through from balance 0 on, left ahead of right, the numbers rise one by one.
            met, waiting = [], [0]
            while waiting:
                met.append(waiting.pop())
                waiting += [lead for lead in told[met[-1]][::-1] if not isinstance(lead, str)]
            self.assertEqual(met, list(range(len(told))))

    def test_the_face_of_a_face_is_itself(self):
        for net, standing in self.trees():
            told = face(net, standing)
            self.assertEqual(face(*told), told)

    def test_trees_told_otherwise(self):
        source = random.Random(145)
        more = 0
        for net, standing in self.trees():
            other, others = told_otherwise(source, net, standing)
            self.assertIs(is_tree(other), True)
            if lone_exit(net):
                # Only the standing of balance 0 that is left may be another one.
                self.assertEqual(face(other, others)[0], face(net, standing)[0])
            else:
                self.assertEqual(face(other, others), face(net, standing), (net, standing, other, others))
            more += len(other) > len(net)
        self.assertGreater(more, 100)

    def test_all_grains_go_out_as_ahead(self):
        source = random.Random(146)
        words = words_for(147)
        for net, standing in self.trees():
            word = source.choice(words)
            self.assertEqual(drop_all_through(*face(net, standing), word)[0], drop_all_through(net, standing, word)[0])

    def test_five_levels_and_eight_balances(self):
        self.assertEqual(max(levels_by_ways(CHAIN)), 4)
        self.assertEqual(len(WIDE), 8)
        for net in (CHAIN, WIDE):
            standing = tuple(2 * at + 1 for at in range(len(net)))
            self.assertEqual(face(net, standing), face_by_hand(net, standing))


class Handed(unittest.TestCase):
    def test_asking_changes_nothing(self):
        for net in (TOGETHER, DEEP, BOTH_TO_BALANCE):
            standing = begun(net)
            for ask in (lambda: crossed(net, standing, 0), lambda: needless(net)):
                self.assertEqual(ask(), ask())
        self.assertEqual(face(WIDE, begun(WIDE)), face(WIDE, begun(WIDE)))
        self.assertEqual(without(BOTH_TO_BALANCE, (1, 3), 0), without(BOTH_TO_BALANCE, (1, 3), 0))


if __name__ == "__main__":
    unittest.main()
