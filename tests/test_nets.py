import copy
import unittest

from netsbyhand import (
    ALIKE_EXITS, BOTH_TO_BALANCE, BOTH_TO_ONE, CHAIN, DEEP, NAMED_NETS, NEEDLESS, ONE, TOGETHER, TREES, TWO_LEVELS,
    WIDE, levels_by_ways, some_nets,
)
from panfalls.nets import begun, depth, exits, is_net, is_standing_of, is_tree, lead_of, levels
from things import ODD_THINGS, nested

NETS = NAMED_NETS + some_nets(81, 300)
# None of these is a lead from the only balance of a net.
NO_LEADS = [
    "", "A", "aB", "abcdefghi", "a1", "a ", " a", "a-b", "_", "a_b", "\n", "a\n", "\u00e4", "\u00df", "\u0430", "1", "0",
    0, 1, 2, -1, True, False, None, (), ("a",), ["a"], [], ("a", "b"), nested(8, "a", tuple), nested(8, "a", list),
]


class Looked(unittest.TestCase):
    def refuse(self, thing):
        self.assertIs(is_net(thing), False, thing)

    def test_nets(self):
        for net in NETS:
            self.assertIs(is_net(net), True, net)
            self.assertIs(is_net(thing=net), True, net)

    def test_names_of_one_to_eight_letters(self):
        for name in ("a", "z", "ab", "zzzzzzzz", "abcdefgh", "left", "none"):
            self.assertIs(is_net(((name, "a"),)), True)
            self.assertIs(is_net((("a", name),)), True)

    def test_no_bounds_are_looked_at(self):
        many = 300
        chain = tuple((balance + 1, "a") for balance in range(many)) + (("b", "c"),)
        self.assertIs(is_net(chain), True)
        self.assertIs(is_net(chain[:-1]), False)
        self.assertIs(is_tree(chain), True)

    def test_the_bare_tuple(self):
        self.refuse(())

    def test_lists_for_tuples(self):
        for net in NETS[:60]:
            self.refuse(list(net))
            self.refuse([list(pair) for pair in net])
            for at, pair in enumerate(net):
                self.refuse(net[:at] + (list(pair),) + net[at + 1:])

    def test_wrong_leads(self):
        for wrong in NO_LEADS:
            self.refuse(((wrong, "a"),))
            self.refuse((("a", wrong),))

    def test_leads_to_a_balance_not_further_on(self):
        self.refuse(((1, "a"), ("b", 0)))
        self.refuse(((1, "a"), (0, "b")))
        self.refuse(((1, 2), ("a", "b"), ("c", 1)))
        self.refuse(((1, "a"), ("b", -1)))
        self.refuse(((-1, 1), ("b", "c")))

    def test_leads_to_itself(self):
        self.refuse(((0, "a"),))
        self.refuse(((1, "a"), (1, "b")))
        self.refuse(((1, "a"), ("b", 1)))

    def test_leads_beyond_the_last_one(self):
        self.refuse(((1, "a"),))
        self.refuse(((1, "a"), ("b", 2)))
        self.refuse(((1, 10 ** 12), ("b", "c")))

    def test_true_for_1(self):
        self.assertIs(is_net(((1, "a"), ("b", "c"))), True)
        self.refuse(((True, "a"), ("b", "c")))
        self.refuse((("a", True), ("b", "c")))
        self.refuse(((1, True), ("b", "c")))

    def test_a_balance_to_which_no_pan_leads(self):
        self.refuse((("a", "b"), ("c", "d")))
        self.refuse(((1, "a"), ("b", "c"), ("d", "e")))
        self.refuse(((2, "a"), (2, "c"), ("d", "e")))
        self.refuse(((1, 1), ("b", "c"), ("d", "e")))
        for net in NETS:
            self.refuse(net + (("a", "b"),))

    def test_pairs_of_one_or_three_parts(self):
        self.refuse((("a",),))
        self.refuse((("a", "b", "c"),))
        self.refuse(((),))
        self.refuse(((1, "a"), ("b",)))
        self.refuse(((1, "a"), ("b", "c", "d")))
        self.refuse(((1, "a", "b"), ("b", "c")))

    def test_other_things(self):
        for thing in ODD_THINGS + [0, 1, -1, "a", "ab", ("a", "b"), ("ab",), (("a", "b"), None), (None,), (1,), ("ab", "cd")]:
            self.refuse(thing)
            self.assertIs(is_tree(thing), False, thing)

    def test_what_is_looked_at_stays(self):
        for thing in ([["a", "b"]], [("a", [1])], ([1, "a"], ["b", "c"])):
            before = copy.deepcopy(thing)
            is_net(thing)
            is_tree(thing)
            is_standing_of(ONE, thing)
            self.assertEqual(thing, before)


class Told(unittest.TestCase):
    def test_lead_of(self):
        for net in NETS:
            for balance, (left, right) in enumerate(net):
                self.assertEqual(lead_of(net, (balance, "left")), left)
                self.assertEqual(lead_of(net, (balance, "right")), right)
        self.assertEqual(lead_of(net=TOGETHER, pan=(1, "left")), "a")
        self.assertEqual(lead_of(pan=(1, "right"), net=TOGETHER), 3)

    def test_exits(self):
        self.assertEqual(exits(ONE), ["a", "b"])
        self.assertEqual(exits(BOTH_TO_ONE), ["a"])
        self.assertEqual(exits((("b", "a"),)), ["a", "b"])
        self.assertEqual(exits(ALIKE_EXITS), ["a", "b"])
        self.assertEqual(exits(WIDE), ["a", "abcdefgh", "b", "c", "d", "zz"])
        self.assertEqual(exits(net=DEEP), ["a", "out", "y", "z"])
        for net in NETS:
            told = exits(net)
            self.assertIs(type(told), list)
            self.assertEqual(told, sorted({lead for pair in net for lead in pair if isinstance(lead, str)}))

    def test_levels_and_depth_by_hand(self):
        self.assertEqual(levels(ONE), [0])
        self.assertEqual(depth(ONE), 1)
        self.assertEqual(levels(TWO_LEVELS), [0, 1, 1])
        self.assertEqual(depth(TWO_LEVELS), 2)
        self.assertEqual(levels(CHAIN), [0, 1, 2, 3, 4])
        self.assertEqual(depth(CHAIN), 5)
        self.assertEqual(levels(TOGETHER), [0, 1, 1, 2])
        self.assertEqual(levels(BOTH_TO_BALANCE), [0, 1])
        # Balance 3 is led to by balance 0 at once, and by longer ways.
        self.assertEqual(levels(((1, 3), (2, "a"), (3, "b"), ("c", "d"))), [0, 1, 2, 3])
        self.assertEqual(levels(net=DEEP), [0, 1, 1, 2, 3, 3, 4, 4])
        self.assertEqual(depth(net=DEEP), 5)

    def test_levels_and_depth_beside_all_ways(self):
        seen = set()
        for net in NETS:
            told = levels(net)
            self.assertIs(type(told), list)
            self.assertEqual(told, levels_by_ways(net), net)
            self.assertEqual(depth(net), max(told) + 1)
            seen.add(depth(net))
        self.assertEqual(seen, {1, 2, 3, 4, 5})

    def test_is_tree(self):
        for net in TREES:
            self.assertIs(is_tree(net), True, net)
        for net in (TOGETHER, BOTH_TO_BALANCE, DEEP):
            self.assertIs(is_tree(net), False, net)
        told = {True: 0, False: 0}
        for net in NETS:
            led = [lead for pair in net for lead in pair if not isinstance(lead, str)]
            expected = all(led.count(balance) == 1 for balance in range(1, len(net)))
            self.assertIs(is_tree(net=net), expected, net)
            told[expected] += 1
        self.assertGreater(min(told.values()), 50)

    def test_begun(self):
        self.assertEqual(begun(ONE), (-1,))
        self.assertEqual(begun(net=CHAIN), (-1, -1, -1, -1, -1))
        for net in NETS:
            self.assertEqual(begun(net), (-1,) * len(net))
            self.assertIs(is_standing_of(net, begun(net)), True)

    def test_told_lists_are_the_askers_own(self):
        for ask in (exits, levels):
            for net in NETS[:40]:
                first, second = ask(net), ask(net)
                self.assertIsNot(first, second)
                first.append(7)
                first[0] = "other"
                self.assertEqual(ask(net), second)
                self.assertEqual(depth(net), max(levels_by_ways(net)) + 1)


class Standings(unittest.TestCase):
    def test_tuples_of_odd_numbers(self):
        for thing in ((1,), (-1,), (401,), (10 ** 12 + 1,), (-10 ** 40 - 1,)):
            self.assertIs(is_standing_of(ONE, thing), True)
            self.assertIs(is_standing_of(TOGETHER, thing * 4), True)
        self.assertIs(is_standing_of(net=NEEDLESS, thing=(3, -5)), True)
        self.assertIs(is_standing_of(thing=[3, -5], net=NEEDLESS), False)

    def test_lists(self):
        self.assertIs(is_standing_of(ONE, [1]), False)
        self.assertIs(is_standing_of(NEEDLESS, [1, 1]), False)
        self.assertIs(is_standing_of(NEEDLESS, ([1], [1])), False)

    def test_wrong_parts(self):
        for wrong in (0, 2, -2, 400, True, False, None, "1", "", (1,), [1], ()):
            for at in range(3):
                thing = (1, -3, 5)[:at] + (wrong,) + (1, -3, 5)[at + 1:]
                self.assertIs(is_standing_of(TWO_LEVELS, thing), False, thing)

    def test_too_few_and_too_many(self):
        for net in NETS[:60]:
            many = len(net)
            for other in {0, 1, many - 1, many + 1, 2 * many} - {many}:
                self.assertIs(is_standing_of(net, (1,) * other), False)

    def test_other_things(self):
        for net in (ONE, NEEDLESS, CHAIN):
            for thing in ODD_THINGS + [0, 1, -1]:
                # The one of these that is a standing, of one balance.
                expected = net == ONE and thing == (-1,)
                self.assertIs(is_standing_of(net, thing), expected, (net, thing))


if __name__ == "__main__":
    unittest.main()
