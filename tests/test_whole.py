"""What holds over the whole program: the interface's names and arguments, and that told lists are the asker's own."""

import importlib
import inspect
import unittest

from netsbyhand import BOTH_TO_BALANCE, CHAIN, NEEDLESS, TOGETHER, TWO_LEVELS
from panfalls import errors
from panfalls.coming import bound, comes_round, exit_at, pounds_out, standing_behind
from panfalls.comingcheck import shows_round
from panfalls.desk import answers
from panfalls.faces import face
from panfalls.netfalls import falls_of
from panfalls.nets import begun, is_standing_of
from panfalls.shares import shares
from panfalls.sharing import is_shares, tree_of
from panfalls.texts import net_in, net_text, word_in, word_text
from panfalls.works import Works

# The arguments of all functions, as they are told.
FUNCTIONS = {
    "falls": {
        "is_standing": "thing", "is_word": "thing", "lighter": "standing", "fall": "standing, weight",
        "falls": "standing, word", "pounds": "standing, word", "ahead_of": "standing, side, weight",
    },
    "runs": {
        "is_run": "thing", "spots": "run", "folded": "run, weight", "behind": "run, word", "parts": "run, weight",
        "is_whole": "run, word",
    },
    "staying": {"runs_to": "word", "staying": "word", "rounds_to": "word", "length": "word"},
    "stayingcheck": {"shows_staying": "word, thing"},
    "settling": {
        "standing_at": "standing, word, many", "pounds_at": "standing, word, many", "settled_from": "standing, word",
    },
    "meeting": {"meeting": "one, other, word", "apart_paper": "one, other, word"},
    "meetingcheck": {"shows_apart": "one, other, word, thing"},
    "resets": {
        "reset": "run", "fewest": "run", "shows_reset": "run, thing", "telling": "most", "told_start": "most, sides",
    },
    "strips": {
        "strip": "word, most", "acts_alike": "one, other, most", "layers": "word, most", "strip_of": "first, second",
        "least_word": "word, most",
    },
    "nets": {
        "is_net": "thing", "lead_of": "net, pan", "exits": "net", "levels": "net", "depth": "net", "is_tree": "net",
        "begun": "net", "is_standing_of": "net, thing",
    },
    "netfalls": {
        "way_of": "net, standing, weight", "falls_of": "net, standing, word", "heard": "net, standing, word",
    },
    "shares": {"shares": "net", "off_bounds": "net"},
    "coming": {
        "bound": "net, word", "comes_round": "net, standing, word", "exit_at": "net, standing, word, number",
        "standing_behind": "net, standing, word, many", "pounds_out": "net, standing, word, many",
    },
    "comingcheck": {"shows_round": "net, standing, word, thing"},
    "faces": {
        "crossed": "net, standing, balance", "needless": "net", "without": "net, standing, balance",
        "face": "net, standing",
    },
    "alike": {"alike": "one, its, other, others", "parting_word": "one, its, other, others"},
    "sharing": {"is_shares": "thing", "fewest_balances": "shares", "tree_of": "shares"},
    "texts": {"word_text": "word", "net_text": "net", "word_in": "text", "net_in": "text"},
    "desk": {"answers": "text"},
}
METHODS = {
    "__init__": "self, net, *, standing=None", "drop": "self, weight", "row": "self, word, rounds=1",
    "lay": "self, pan, pounds", "cross": "self, balance", "take": "self, balance", "hang": "self, name, net",
    "undo": "self", "net": "self", "standing": "self", "came": "self", "out": "self", "off": "self, name",
    "deeds": "self", "as_of": "self, many", "twin": "self", "log": "self", "__eq__": "self, other", "__len__": "self",
}
SHARES = (("a", (3, 8)), ("b", (1, 2)), ("c", (1, 8)))
# An ask for each function and method that tells a list, or a list within a tuple.
LISTS = {
    ("falls", "falls"): (-1, (3, 1, 2)),
    ("staying", "runs_to"): ((5, 4),),
    ("strips", "strip"): ((2, 1), 5),
    ("strips", "layers"): ((2, 1), 5),
    ("strips", "strip_of"): ([(3, True), (1, True), (1, False)], [(1, False), (1, True), (3, True)]),
    ("nets", "exits"): (TOGETHER,),
    ("nets", "levels"): (TOGETHER,),
    ("netfalls", "way_of"): (TOGETHER, (-1,) * 4, 3),
    ("netfalls", "falls_of"): (TOGETHER, (-1,) * 4, (3, 4)),
    ("netfalls", "heard"): (TOGETHER, (-1,) * 4, (3, 4)),
    ("shares", "shares"): (TOGETHER,),
    ("shares", "off_bounds"): (TOGETHER,),
    ("coming", "pounds_out"): (TOGETHER, (-1,) * 4, (3, 4), 99),
    ("faces", "needless"): (NEEDLESS,),
    ("desk", "answers"): ("a b\n\ndrop 3\nout",),
}


def arguments(thing):
    return str(inspect.signature(thing)).strip("()")


def lists_in(thing):
    """All lists that a told thing has in it, it itself among them."""
    found = [thing] if isinstance(thing, list) else []
    if isinstance(thing, (list, tuple)):
        for part in thing:
            found += lists_in(part)
    return found


class Interface(unittest.TestCase):
    def test_functions(self):
        for name, functions in FUNCTIONS.items():
            module = importlib.import_module("panfalls." + name)
            for function, expected in functions.items():
                self.assertEqual(arguments(getattr(module, function)), expected, function)
                self.assertEqual(getattr(module, function).__module__, module.__name__)

    def test_methods(self):
        for name, expected in METHODS.items():
            self.assertEqual(arguments(vars(Works)[name]), expected, name)
        self.assertEqual(Works.__bases__, (object,))

    def test_errors(self):
        for name in ("NoBalance", "NoExit", "NoDeed", "Needed", "Lone", "Deep", "Many", "BadRow"):
            self.assertEqual(arguments(vars(getattr(errors, name))["__init__"]), "self, what")


class Lists(unittest.TestCase):
    def test_told_lists_are_the_askers_own(self):
        for (name, function), given in LISTS.items():
            ask = getattr(importlib.import_module("panfalls." + name), function)
            first, second = ask(*given), ask(*given)
            self.assertEqual(first, second)
            found = lists_in(first) + lists_in(second) + lists_in(given)
            self.assertTrue(lists_in(first), function)
            self.assertEqual(len({id(each) for each in found}), len(found), function)
            for each in lists_in(first):
                each.clear()
            self.assertEqual(ask(*given), second, function)

    def test_works_tell_lists_of_the_askers_own(self):
        works = Works(TOGETHER)
        told = [works.row((3, 4), 9), works.row((3, 4), 0), works.out(), works.out(), works.log(), works.log(),
                works.twin().out(), works.twin().log(), works.as_of(1).out()]
        self.assertEqual(len({id(each) for each in told}), len(told))
        before = works.out(), works.log()
        for each in told:
            each.append(7)
        self.assertEqual((works.out(), works.log()), before)


class HandedInAgain(unittest.TestCase):
    """What one part tells is what another one takes."""

    def test_a_tree_of_told_shares_through_all_parts(self):
        net = tree_of(SHARES)
        self.assertEqual(net_in(net_text(net)), net)
        self.assertIs(is_shares(tuple(shares(net))), True)
        works = Works(net)
        rows = 2 ** 5
        out = works.row((24, 1, 7), rows)
        self.assertEqual(sum(pounds for name, pounds in out), rows * 32)
        told = comes_round(net, works.standing(), (24, 1, 7))
        self.assertIs(shows_round(net, works.standing(), (24, 1, 7), told), True)
        net, standing = face(works.net(), works.standing())
        self.assertIs(is_standing_of(net, standing), True)
        again = Works(net, standing=standing)
        for weight in (5, 3, 9, 24, 1, 1, 1):
            self.assertEqual(again.drop(weight), works.drop(weight))

    def test_far_grains_are_what_falls_come_to(self):
        for net in (TOGETHER, CHAIN, BOTH_TO_BALANCE, TWO_LEVELS):
            word = (5, 24, 2)
            power = bound(net, word)[1]
            first = comes_round(net, begun(net), word)[0]
            far = 3 * (first + power * 10 ** 11)
            self.assertEqual(standing_behind(net, begun(net), word, far), standing_behind(net, begun(net), word, 3 * first))
            near = standing_behind(net, begun(net), word, 3 * first)
            names = falls_of(net, near, word)[0]
            self.assertEqual([exit_at(net, begun(net), word, far + at) for at in range(3)], names)
            more = dict(pounds_out(net, begun(net), word, far))
            less = dict(pounds_out(net, begun(net), word, 3 * first))
            for name, (top, bottom) in shares(net):
                self.assertEqual((more[name] - less[name]) * bottom, top * 31 * power * 10 ** 11)

    def test_texts_of_words_that_were_told(self):
        for text in ("-", "1 24 7", "9" * 5000):
            self.assertEqual(word_text(word_in(text)), text)

    def test_a_desk_beside_a_works(self):
        rows = [f"drop {weight}" for weight in range(1, 25)] + ["row 1000000000000 5 3", "undo"] * 8
        told = answers("\n".join([net_text(CHAIN), ""] + rows + ["out", "came"]))
        works = Works(CHAIN)
        exits = [works.drop(weight) for weight in range(1, 25)]
        self.assertEqual(told[:24], exits)
        self.assertEqual(told[-2:], ["; ".join(f"{name} {many}" for name, many in works.out()), "300"])


if __name__ == "__main__":
    unittest.main()
