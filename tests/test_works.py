import copy
import random
import unittest
from fractions import Fraction

from keeping import CLASSES, Keeping, exits_of, tried
from netsbyhand import (
    BOTH_TO_BALANCE, BOTH_TO_ONE, CHAIN, DEEP, NAMED_NETS, NEEDLESS, ONE, TOGETHER, TWO_LEVELS, WIDE, drop_all_through,
    pounds_by_hand, random_net, some_nets, some_standing,
)
from panfalls import errors
from panfalls.coming import pounds_out, standing_behind
from panfalls.faces import crossed, without
from panfalls.nets import begun, is_net, is_standing_of
from panfalls.works import Works

DEEDS = ("drop", "row", "lay", "cross", "take", "hang", "undo")
SMALL = [ONE, BOTH_TO_ONE, NEEDLESS, BOTH_TO_BALANCE, (("a", "z"),), ((1, 1), ("q", "q"))]


def snapshot(works):
    return (works.net(), works.standing(), works.came(), works.out(), works.deeds(), len(works))


def some_deed(source, net):
    """A deed and what it's given, right or to be refused."""
    balance = source.choice([source.randrange(len(net))] * 4 + [-1, len(net), len(net) + 5, -10 ** 12])
    word = source.choice(DEEDS + ("take", "undo"))
    if word == "drop":
        return word, source.randint(1, 24)
    if word == "row":
        grains = tuple(source.randint(1, 24) for _ in range(source.randint(1, 12)))
        return (word, grains, source.choice((0, 1, 2, 7, 30))) if source.random() < 0.8 else (word, grains)
    if word == "lay":
        return word, (balance, source.choice(("left", "right"))), source.randint(1, 24)
    if word in ("cross", "take"):
        return word, balance
    if word == "hang":
        other = source.choice(SMALL) if source.random() < 0.7 else random_net(source, 4, 4)
        return word, source.choice(exits_of(net) + ["none", "zzzzzzzz"]), other
    return (word,)


class BesideAKeeping(unittest.TestCase):
    def compare(self, works, keeping):
        self.assertEqual(works.net(), keeping.net())
        self.assertEqual(works.standing(), keeping.standing())
        self.assertEqual(works.came(), keeping.came())
        self.assertEqual(works.out(), keeping.out())
        self.assertEqual(works.deeds(), keeping.deeds())
        self.assertEqual(works.log(), keeping.log)
        self.assertEqual(len(works), len(keeping.net()))
        self.assertIs(is_net(works.net()), True)
        self.assertIs(is_standing_of(works.net(), works.standing()), True)
        # What came went out, undone and refused deeds or not.
        self.assertEqual(works.came(), sum(pounds for name, pounds in works.out()))
        offs = Fraction(0)
        for name in exits_of(keeping.net()):
            told = works.off(name)
            self.assertEqual(told, keeping.off(name))
            offs += Fraction(*told)
        lost = sum(pounds for name, pounds in works.out() if name not in exits_of(keeping.net()))
        self.assertEqual(offs, -lost)

    def test_deed_by_deed(self):
        refused = {name: 0 for name in CLASSES}
        source = random.Random(181)
        for net in NAMED_NETS + some_nets(182, 60):
            standing = source.choice((None, some_standing(source, net, 401)))
            works = Works(net, standing=standing)
            keeping = Keeping(net, standing)
            self.compare(works, keeping)
            for _ in range(45):
                word, *given = some_deed(source, works.net())
                before = snapshot(works)
                told = tried(getattr(works, word), *given)
                self.assertEqual(told, keeping.do(word, *given), (word, given))
                if isinstance(told, tuple):
                    refused[told[0]] += 1
                    self.assertEqual(snapshot(works), before)
                self.compare(works, keeping)
        self.assertGreater(min(refused[name] for name in CLASSES if name != "NoDeed"), 5, refused)

    def test_undone_to_the_beginning(self):
        source = random.Random(183)
        for net in NAMED_NETS + some_nets(184, 20):
            works, keeping, seen = Works(net), Keeping(net), []
            while works.deeds() < 60:
                word, *given = some_deed(source, works.net())
                if word == "undo":
                    continue
                before = snapshot(works)
                tried(getattr(works, word), *given)
                keeping.do(word, *given)
                if works.deeds() > len(seen):
                    seen.append(before)
            for many in range(60):
                past = works.as_of(many)
                self.assertEqual(snapshot(past), seen[many])
                self.assertEqual(past.log(), [])
            while seen:
                self.assertIs(works.undo(), True)
                self.assertIs(keeping.do("undo"), True)
                self.assertEqual(snapshot(works), seen.pop())
            self.compare(works, keeping)
            self.assertIs(works.undo(), False)
            self.assertIs(works.undo(), False)
            self.assertEqual(snapshot(works), (net, begun(net), 0, [(name, 0) for name in exits_of(net)], 0, len(net)))
            self.assertEqual(works.log()[-4:], [("in", "undo"), ("out", "undo")] * 2)


class Made(unittest.TestCase):
    def test_begun(self):
        for net in NAMED_NETS:
            for works in (Works(net), Works(net=net), Works(net, standing=None), Works(standing=None, net=net)):
                names = exits_of(net)
                self.assertEqual(snapshot(works), (net, begun(net), 0, [(name, 0) for name in names], 0, len(net)))
                self.assertEqual(works.log(), [])
                for name in names:
                    self.assertEqual(works.off(name), (0, 1))

    def test_with_a_standing(self):
        source = random.Random(185)
        for net in NAMED_NETS:
            standing = some_standing(source, net, 401)
            works = Works(net, standing=standing)
            self.assertEqual((works.net(), works.standing()), (net, standing))
            self.assertIs(type(works.standing()), tuple)

    def test_standing_by_name_alone(self):
        with self.assertRaises(TypeError):
            Works(ONE, (-1,))


class Grains(unittest.TestCase):
    def test_drop_tells_the_exit(self):
        works = Works(ONE)
        self.assertEqual([works.drop(5), works.drop(2), works.drop(weight=3), works.drop(1)], ["a", "b", "b", "a"])
        self.assertEqual(works.out(), [("a", 6), ("b", 5)])
        self.assertEqual(works.came(), 11)
        self.assertEqual(works.off("a"), (1, 2))
        self.assertEqual(works.off(name="b"), (-1, 2))

    def test_row_as_pounds_out(self):
        source = random.Random(186)
        for net in NAMED_NETS + some_nets(187, 30):
            works = Works(net, standing=some_standing(source, net, 401))
            for rounds in (0, 1, 3, 40, 10 ** 6):
                word = tuple(source.randint(1, 24) for _ in range(source.randint(1, 12)))
                standing, came, ahead = works.standing(), works.came(), dict(works.out())
                expected = pounds_out(net, standing, word, rounds * len(word))
                told = works.row(word, rounds)
                self.assertIs(type(told), list)
                self.assertEqual(told, expected)
                self.assertEqual(works.standing(), standing_behind(net, standing, word, rounds * len(word)))
                self.assertEqual(works.came(), came + rounds * sum(word))
                self.assertEqual(works.out(), [(name, ahead[name] + pounds) for name, pounds in told])

    def test_row_of_one_round_and_of_none(self):
        works = Works(TWO_LEVELS)
        names, after = drop_all_through(TWO_LEVELS, (-1, -1, -1), (5, 4, 3))
        self.assertEqual(works.row((5, 4, 3)), pounds_by_hand(TWO_LEVELS, names, (5, 4, 3)))
        self.assertEqual(works.standing(), after)
        self.assertEqual(works.row((7,), 0), [(name, 0) for name in "abcd"])
        self.assertEqual((works.standing(), works.came(), works.deeds()), (after, 12, 2))
        self.assertEqual(works.row(rounds=0, word=(7,)), [(name, 0) for name in "abcd"])
        self.assertEqual(works.row(word=(1,)), [("a", 0), ("b", 1), ("c", 0), ("d", 0)])
        self.assertEqual(works.deeds(), 4)

    def test_rows_that_no_one_could_go_through(self):
        for net in (ONE, CHAIN, DEEP, WIDE, TOGETHER):
            works = Works(net, standing=(399,) * len(net))
            word = (24, 1, 23, 7)
            told = works.row(word, 10 ** 11)
            self.assertEqual(sum(pounds for name, pounds in told), 55 * 10 ** 11)
            self.assertEqual(works.came(), 55 * 10 ** 11)
            self.assertEqual(works.row(word, 10 ** 12)[0][0], exits_of(net)[0])
            self.assertEqual(works.came(), 55 * 10 ** 11 + 55 * 10 ** 12)

    def test_rows_put_together(self):
        source = random.Random(188)
        for net in NAMED_NETS + some_nets(189, 30):
            word = tuple(source.randint(1, 24) for _ in range(source.randint(1, 5)))
            many, more = source.choice((0, 3, 50, 10 ** 11)), source.choice((0, 1, 20, 10 ** 10 + 1))
            one, other = Works(net), Works(net)
            first, second = one.row(word, many), one.row(word, more)
            together = other.row(word, many + more)
            self.assertEqual([(name, dict(first)[name] + dict(second)[name]) for name, _ in together], together)
            self.assertEqual(one, other)
            self.assertEqual((one.deeds(), other.deeds()), (2, 1))

    def test_a_row_is_its_grains(self):
        for net in NAMED_NETS:
            one, other = Works(net), Works(net)
            one.row((3, 1, 24), 5)
            for weight in (3, 1, 24) * 5:
                other.drop(weight)
            self.assertEqual(one, other)
            self.assertEqual((one.deeds(), other.deeds()), (1, 15))

    def test_shares_to_the_pound(self):
        for net in NAMED_NETS:
            works = Works(net)
            works.row((5, 3), 2 ** 5 * 100)
            before = dict(works.out())
            came = works.came()
            works.row((5, 3), 2 ** 5)
            offs = {name: Fraction(*works.off(name)) for name in exits_of(net)}
            for name, pounds in works.out():
                share = (Fraction(pounds) - offs[name]) / works.came()
                self.assertEqual(pounds - before[name], share * (works.came() - came))


class Laid(unittest.TestCase):
    def test_one_standing_alone(self):
        for net in NAMED_NETS:
            for balance in range(len(net)):
                for side, way in (("left", 2), ("right", -2)):
                    for pounds in (1, 7, 24):
                        works = Works(net)
                        works.drop(5)
                        standing, out = works.standing(), works.out()
                        self.assertIsNone(works.lay((balance, side), pounds))
                        expected = list(standing)
                        expected[balance] += way * pounds
                        self.assertEqual(works.standing(), tuple(expected))
                        self.assertEqual((works.net(), works.came(), works.out()), (net, 5, out))
                        self.assertEqual(works.deeds(), 2)

    def test_by_name(self):
        works = Works(ONE)
        self.assertIsNone(works.lay(pounds=3, pan=(0, "right")))
        self.assertEqual(works.standing(), (-7,))


class Changed(unittest.TestCase):
    def test_cross_and_take(self):
        source = random.Random(190)
        for net in NAMED_NETS + some_nets(191, 60):
            standing = some_standing(source, net, 99)
            for balance in range(len(net)):
                works = Works(net, standing=standing)
                self.assertIsNone(works.cross(balance))
                self.assertEqual((works.net(), works.standing()), crossed(net, standing, balance))
                works = Works(net, standing=standing)
                told = tried(works.take, balance)
                if told is None:
                    self.assertEqual((works.net(), works.standing()), without(net, standing, balance))
                    self.assertEqual(len(works), len(net) - 1)
                else:
                    self.assertEqual(told, tried(without, net, standing, balance))
                    self.assertEqual((works.net(), works.standing()), (net, standing))
        works = Works(NEEDLESS)
        works.cross(balance=0)
        works.take(balance=1)
        self.assertEqual((works.net(), works.standing()), ((("b", "a"),), (1,)))

    def test_crossing_twice_is_none(self):
        for net in NAMED_NETS:
            works = Works(net)
            works.row((3, 5), 3)
            before = works.twin()
            for balance in range(len(net)):
                works.cross(balance)
                self.assertNotEqual(works, before)
                works.cross(balance)
                self.assertEqual(works, before)

    def test_hang_by_hand(self):
        works = Works(ONE)
        self.assertIsNone(works.hang("a", TWO_LEVELS))
        self.assertEqual(works.net(), ((1, "b"), (2, 3), ("a", "b"), ("c", "d")))
        self.assertEqual(works.standing(), (-1, -1, -1, -1))
        # The hung net's exits of that NAME are exits still, which another one may take the place of.
        works.hang(net=(("x", "b"),), name="b")
        self.assertEqual(works.net(), ((1, 4), (2, 3), ("a", 4), ("c", "d"), ("x", "b")))

    def test_hang_in_all_pans(self):
        works = Works(((1, "a"), ("a", "a")), standing=(7, -9))
        works.drop(4)
        works.hang("a", (("a", 1), ("b", "a")))
        self.assertEqual(works.net(), ((1, 2), (2, 2), ("a", 3), ("b", "a")))
        self.assertEqual(works.standing(), (-1, -9, -1, -1))
        self.assertEqual((works.came(), works.out()), (4, [("a", 4), ("b", 0)]))

    def test_exits_that_are_there_no_more(self):
        works = Works(ONE)
        works.drop(5)
        works.drop(2)
        works.hang("a", (("c", "d"),))
        self.assertEqual(works.out(), [("a", 5), ("b", 2), ("c", 0), ("d", 0)])
        self.assertEqual(tried(works.off, "a"), ("NoExit", "a"))
        self.assertEqual(works.off("b"), (-3, 2))
        self.assertEqual(works.off("c"), (-7, 4))
        works.hang("c", (("e", "f"),))
        # Nothing went out at c, so it isn't told any more.
        self.assertEqual(works.out(), [("a", 5), ("b", 2), ("d", 0), ("e", 0), ("f", 0)])
        works.undo()
        works.undo()
        self.assertEqual(works.out(), [("a", 5), ("b", 2)])
        self.assertEqual(works.off("a"), (3, 2))

    def test_no_pounds_by_a_row_of_no_round(self):
        works = Works(ONE)
        works.row((5,), 0)
        works.hang("a", (("c", "d"),))
        self.assertEqual(works.out(), [("b", 0), ("c", 0), ("d", 0)])

    def test_an_exit_that_comes_back(self):
        works = Works(ONE)
        works.drop(5)
        works.hang("a", (("c", "d"),))
        works.hang("c", (("a", "a"),))
        self.assertEqual(works.out(), [("a", 5), ("b", 0), ("d", 0)])
        self.assertEqual(works.off("a"), (15, 4))


class Refused(unittest.TestCase):
    def check(self, works, name, what, word, *given):
        made = getattr(errors, name)
        before, log = snapshot(works), works.log()
        with self.assertRaises(made) as caught:
            getattr(works, word)(*given)
        self.assertIs(type(caught.exception), made)
        self.assertEqual(vars(caught.exception), {"what": what})
        self.assertEqual(snapshot(works), before)
        logged = [("in", word), ("out", word)] if word in DEEDS else []
        self.assertEqual(works.log(), log + logged)

    def works(self):
        works = Works(WIDE)
        works.row((3, 5, 7), 4)
        return works

    def test_no_balance(self):
        for net in (ONE, NEEDLESS, WIDE):
            works = Works(net)
            works.drop(3)
            for balance in (len(net), len(net) + 1, -1, -len(net), -len(net) - 1, 10 ** 12, -10 ** 12):
                self.check(works, "NoBalance", balance, "cross", balance)
                self.check(works, "NoBalance", balance, "take", balance)
                self.check(works, "NoBalance", balance, "lay", (balance, "left"), 3)
                self.check(works, "NoBalance", balance, "lay", (balance, "right"), 24)

    def test_needed_and_lone(self):
        for balance in (0, 2, 7):
            self.check(self.works(), "Needed", balance, "take", balance)
        self.check(Works(BOTH_TO_ONE), "Lone", 0, "take", 0)
        self.check(Works(ONE), "Needed", 0, "take", 0)
        works = Works(((1, 1), ("a", "a")))
        works.take(1)
        self.check(works, "Lone", 0, "take", 0)
        works = Works(((1, 1), ("a", "a")))
        works.take(0)
        self.check(works, "Lone", 0, "take", 0)

    def test_no_exit_of_hang_and_off(self):
        for name in ("none", "zzzzzzzz", "left", "aa"):
            self.check(self.works(), "NoExit", name, "hang", name, ONE)
            self.check(self.works(), "NoExit", name, "off", name)
        works = Works(ONE)
        works.drop(4)
        works.hang("a", (("c", "d"),))
        self.check(works, "NoExit", "a", "hang", "a", ONE)
        self.check(works, "NoExit", "a", "off", "a")

    def test_many(self):
        self.check(self.works(), "Many", 9, "hang", "zz", ONE)
        self.check(self.works(), "Many", 16, "hang", "c", WIDE)
        self.check(Works(ONE), "Many", 9, "hang", "a", WIDE)
        works = Works(CHAIN)
        self.check(works, "Many", 9, "hang", "a", TOGETHER)
        works.hang("a", TWO_LEVELS)
        self.assertEqual(len(works), 8)

    def test_deep(self):
        self.check(Works(CHAIN), "Deep", 6, "hang", "e", ONE)
        self.check(Works(CHAIN), "Deep", 6, "hang", "f", BOTH_TO_ONE)
        self.check(Works(CHAIN), "Deep", 7, "hang", "e", TWO_LEVELS)
        self.check(Works(CHAIN), "Deep", 6, "hang", "d", TWO_LEVELS)
        self.check(Works(ONE), "Deep", 6, "hang", "a", CHAIN)
        works = Works(CHAIN)
        works.hang("d", ONE)
        self.assertEqual(len(works), 6)

    def test_the_deepest_pan_tells(self):
        # The exit is led to from the first and from the last level.
        works = Works(((1, "a"), (2, "b"), (3, "c"), (4, "d"), ("a", "e")))
        self.check(works, "Deep", 6, "hang", "a", ONE)
        works.hang("b", ONE)

    def test_the_first_of_several_due(self):
        deep = tuple((at + 1, "q") for at in range(7)) + (("q", "r"),)
        self.check(Works(CHAIN), "NoExit", "none", "hang", "none", deep)
        self.check(Works(CHAIN), "Many", 13, "hang", "e", deep)
        self.check(Works(CHAIN), "Many", 10, "hang", "f", CHAIN)
        # Both pans of what would be balance -1, were it one, have one lead.
        self.check(Works(BOTH_TO_ONE), "NoBalance", -1, "take", -1)
        self.check(Works(NEEDLESS), "NoBalance", -1, "take", -1)

    def test_no_deed(self):
        works = self.works()
        for many in (2, 3, -1, -2, 10 ** 12):
            self.check(works, "NoDeed", many, "as_of", many)
        works.undo()
        self.check(works, "NoDeed", 1, "as_of", 1)
        self.assertEqual(works.as_of(0), works)

    def test_refused_deeds_are_not_undone(self):
        works = Works(ONE)
        works.drop(3)
        self.check(works, "NoBalance", 7, "cross", 7)
        self.assertEqual(works.deeds(), 1)
        self.assertIs(works.undo(), True)
        self.assertEqual(works, Works(ONE))
        self.assertIs(works.undo(), False)


class Logged(unittest.TestCase):
    def test_each_deed_at_both_ends(self):
        works = Works(NEEDLESS)
        works.drop(3)
        works.row((2, 1), 5)
        works.lay((1, "left"), 2)
        works.cross(0)
        works.take(1)
        works.hang("a", ONE)
        works.undo()
        for _ in range(6):
            works.undo()
        tried(works.take, 0)
        words = ["drop", "row", "lay", "cross", "take", "hang"] + ["undo"] * 7 + ["take"]
        told = works.log()
        self.assertIs(type(told), list)
        self.assertEqual(told, [(end, word) for word in words for end in ("in", "out")])

    def test_asks_are_not_logged(self):
        works = Works(ONE)
        works.drop(2)
        for ask in (works.net, works.standing, works.came, works.out, works.deeds, works.twin, works.log):
            ask()
        works.off("a")
        works.as_of(0)
        tried(works.off, "none")
        tried(works.as_of, 9)
        len(works), works == works
        self.assertEqual(works.log(), [("in", "drop"), ("out", "drop")])


class Undone(unittest.TestCase):
    def test_true_and_false(self):
        works = Works(ONE)
        self.assertIs(works.undo(), False)
        works.drop(3)
        self.assertIs(works.undo(), True)
        self.assertIs(works.undo(), False)

    def test_deeds_behind_an_undone_one(self):
        works = Works(ONE)
        works.drop(3)
        works.drop(4)
        works.undo()
        works.drop(5)
        self.assertEqual((works.deeds(), works.came(), works.out()), (2, 8, [("a", 3), ("b", 5)]))
        works.undo()
        works.undo()
        self.assertEqual(works, Works(ONE))

    def test_far_rows_are_undone(self):
        works = Works(CHAIN)
        works.row((24, 7), 10 ** 12)
        works.undo()
        self.assertEqual(snapshot(works), snapshot(Works(CHAIN)))


class Others(unittest.TestCase):
    def test_as_of_and_twin_are_works_of_their_own(self):
        works = Works(TWO_LEVELS)
        works.drop(3)
        works.cross(0)
        works.row((2, 1), 7)
        told = snapshot(works)
        twin, past, by_name = works.twin(), works.as_of(2), works.as_of(many=1)
        self.assertIs(type(twin), Works)
        self.assertEqual(snapshot(twin), told)
        self.assertEqual((past.deeds(), past.came(), past.log()), (2, 3, []))
        self.assertEqual((by_name.deeds(), twin.log()), (1, []))
        twin.drop(9)
        past.undo()
        by_name.hang("a", ONE)
        self.assertEqual(snapshot(works), told)
        self.assertEqual(len(works.log()), 6)
        self.assertEqual(twin.log(), [("in", "drop"), ("out", "drop")])
        self.assertEqual(past.log(), [("in", "undo"), ("out", "undo")])
        seen = snapshot(twin)
        while works.undo():
            pass
        works.drop(24)
        self.assertEqual(snapshot(twin), seen)
        self.assertEqual([twin.undo() for _ in range(5)], [True] * 4 + [False])
        self.assertEqual(twin, Works(TWO_LEVELS))
        self.assertEqual([past.undo(), past.undo()], [True, False])

    def test_of_a_works_with_a_standing(self):
        works = Works(ONE, standing=(9,))
        works.drop(1)
        self.assertEqual(works.as_of(0).standing(), (9,))
        twin = works.twin()
        twin.undo()
        self.assertEqual(twin.standing(), (9,))

    def test_as_of_undone_deeds(self):
        works = Works(ONE)
        works.drop(1)
        works.drop(2)
        works.undo()
        works.drop(7)
        past = works.as_of(2)
        self.assertEqual((past.out(), past.deeds()), ([("a", 1), ("b", 7)], 2))


class Compared(unittest.TestCase):
    def test_nets_standings_and_out(self):
        self.assertTrue(Works(ONE) == Works(ONE))
        self.assertFalse(Works(ONE) != Works(ONE))
        self.assertFalse(Works(ONE) == Works((("b", "a"),)))
        self.assertFalse(Works(ONE) == Works(ONE, standing=(1,)))
        self.assertTrue(Works(ONE) == Works(ONE, standing=(-1,)))
        one, other = Works(ONE), Works(ONE)
        one.row((1, 1))
        self.assertEqual(one.standing(), other.standing())
        self.assertFalse(one == other)
        self.assertTrue(one != other)
        other.drop(1)
        other.drop(1)
        self.assertTrue(one == other)

    def test_logs_and_deeds_are_not_compared(self):
        one, other = Works(ONE), Works(ONE)
        one.undo()
        one.cross(0)
        one.cross(0)
        self.assertTrue(one == other)

    def test_unlike_all_else(self):
        works = Works(ONE)
        for other in (None, 1, "", ONE, (ONE, (-1,)), [works], {}, object(), Works):
            self.assertIs(works == other, False)
            self.assertIs(other == works, False)
            self.assertIs(works != other, True)
        self.assertIs(works == works, True)

    def test_len(self):
        for net in NAMED_NETS:
            self.assertEqual(len(Works(net)), len(net))


class Handed(unittest.TestCase):
    def test_told_lists_are_the_askers_own(self):
        works = Works(TWO_LEVELS)
        row = works.row((3, 5), 4)
        told = copy.deepcopy((works.out(), works.log(), snapshot(works)))
        row[0] = ("a", 10 ** 6)
        row.clear()
        for ask in (works.out, works.log):
            first, second = ask(), ask()
            self.assertIsNot(first, second)
            first[0] = ("z", 7)
            first.append(("zz", 1))
            self.assertNotEqual(first, second)
        self.assertEqual((works.out(), works.log(), snapshot(works)), told)
        twin = works.twin()
        twin.out().clear()
        twin.drop(1)
        twin.log().clear()
        self.assertEqual((works.out(), works.log(), snapshot(works)), told)

    def test_asking_is_told_the_same_each_time(self):
        works = Works(DEEP)
        works.row((3, 5), 9)
        self.assertEqual(snapshot(works), snapshot(works))
        self.assertEqual(works.off("out"), works.off("out"))

    def test_the_methods_stand_in_the_class_itself(self):
        asks = ("net", "standing", "came", "out", "off", "deeds", "as_of", "twin", "log", "__eq__", "__len__", "__init__")
        for name in DEEDS + asks:
            self.assertIn(name, vars(Works))


if __name__ == "__main__":
    unittest.main()
