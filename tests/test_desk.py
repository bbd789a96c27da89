import random
import unittest

from keeping import exits_of, tried
from netsbyhand import CHAIN, NAMED_NETS, NEEDLESS, ONE, TWO_LEVELS, round_by_round, shares_by_ways, some_nets
from panfalls.desk import answers
from panfalls.errors import BadRow
from panfalls.staying import length
from panfalls.texts import net_text
from panfalls.works import Works

NO_NUMBERS = [
    "", "a", "A", "00", "01", "007", "+1", "-1", "-0", "-", "1.0", "1_0", "0x1", "1,", "\u0661", "\u00b2", "\uff11",
    "12345678901234", "10000000000000", "9" * 5000, "left", "1\t", "\t1", "1\r",
]


def asked(net, *rows):
    return answers("\n".join((net_text(net), "") + rows))


class Answered(unittest.TestCase):
    def test_told_by_hand(self):
        told = asked(
            ONE, "drop 5", "drop 2", "row 3 1 2", "lay 0 left 3", "lay 0 right 24", "cross 0", "undo", "standing", "came",
            "out", "off a", "off b", "shares", "round 1 2", "length 1 2", "length 1 1", "net",
        )
        self.assertEqual(told, [
            "a", "b", "a 4; b 5", "done", "done", "done", "yes", "-39", "16",
            "a 9; b 7", "1/1", "-1/1", "a 1/2; b 1/2", "6 2", "2", "1", "a b",
        ])
        self.assertIs(type(told), list)

    def test_no_rows_behind(self):
        self.assertEqual(answers("a b\n"), [])
        self.assertEqual(answers("1 a\nb c\n"), [])
        self.assertEqual(answers(text="a b\n\ncame"), ["0"])

    def test_undo(self):
        self.assertEqual(asked(ONE, "undo", "drop 3", "undo", "undo", "came"), ["no", "a", "yes", "no", "0"])

    def test_off_above_below_and_0(self):
        self.assertEqual(asked(ONE, "off a", "drop 5", "off a", "off b"), ["0/1", "a", "5/2", "-5/2"])
        told = asked(TWO_LEVELS, "drop 5", "off a", "off b", "drop 4", "off c")
        self.assertEqual(told, ["a", "15/4", "-5/4", "c", "7/4"])

    def test_standing(self):
        self.assertEqual(asked(NEEDLESS, "standing", "drop 5", "standing", "lay 1 right 7", "standing"),
                         ["-1 -1", "a", "9 9", "done", "9 -5"])

    def test_net_and_shares(self):
        self.assertEqual(asked(NEEDLESS, "net", "take 1", "net", "cross 0", "net"), ["1 b; a a", "done", "a b", "done", "b a"])
        self.assertEqual(asked(CHAIN, "shares"), ["a 1/2; b 1/4; c 1/8; d 1/16; e 1/32; f 1/32"])
        self.assertEqual(asked((("a", "a"),), "shares", "net"), ["a 1/1", "a a"])

    def test_refused(self):
        rows = ("cross 1", "take 1", "lay 1 left 1", "take 0", "off zz", "cross 9999999999999", "lay 9999999999999 right 24")
        told = asked(ONE, *rows, "undo", "standing")
        self.assertEqual(told, ["refused NoBalance"] * 3 + ["refused Needed", "refused NoExit"]
                         + ["refused NoBalance"] * 2 + ["no", "-1"])
        self.assertEqual(asked((("a", "a"),), "take 0", "take 1"), ["refused Lone", "refused NoBalance"])

    def test_rows_of_many_rounds(self):
        self.assertEqual(asked(ONE, "row 1000000000000 1 1", "came"), ["a 1000000000000; b 1000000000000", "2000000000000"])
        self.assertEqual(asked(ONE, "row 9999999999999 2 1 3", "came")[1], "59999999999994")
        self.assertEqual(asked(ONE, "row 0 24", "came"), ["a 0; b 0", "0"])

    def test_words_of_any_number_of_grains(self):
        for many in (1, 2, 12, 55):
            grains = " ".join(["3"] * many)
            told = asked(ONE, f"row 2 {grains}", f"round {grains}", f"length {grains}")
            self.assertEqual(told[2], str(length((3,) * many)))
            self.assertEqual(told[0], f"a {3 * many}; b {3 * many}")

    def test_bounds_that_are_right(self):
        told = asked(ONE, "drop 1", "drop 24", "lay 0 left 24", "lay 0 right 1", "row 1 24", "length 24", "round 1 24")
        self.assertEqual(told[:4], ["a", "b", "done", "done"])
        self.assertEqual(told[5], "2")

    def test_beside_a_works(self):
        source = random.Random(211)
        for net in NAMED_NETS + some_nets(212, 60):
            works, rows, expected = Works(net), [], []
            for _ in range(50):
                row, told = self.some_row(source, works)
                rows.append(row)
                expected.append(told)
            self.assertEqual(asked(net, *rows), expected, (net, rows))

    def some_row(self, source, works):
        """A row and its answer, told from a works that it's asked of, too."""
        word = source.choice((
            "drop", "drop", "row", "lay", "cross", "take", "undo", "standing", "came", "out", "off", "shares", "round",
            "length", "net",
        ))
        balance = source.randint(0, len(works))
        weight = source.randint(1, 24)
        grains = tuple(source.randint(1, 24) for _ in range(source.randint(1, 12)))
        in_figures = " ".join(map(str, grains))
        if word == "drop":
            return f"drop {weight}", works.drop(weight)
        if word == "row":
            rounds = source.choice((0, 1, 9, 10 ** 12))
            return f"row {rounds} {in_figures}", "; ".join(f"{name} {many}" for name, many in works.row(grains, rounds))
        if word == "lay":
            side = source.choice(("left", "right"))
            return f"lay {balance} {side} {weight}", self.done(tried(works.lay, (balance, side), weight))
        if word in ("cross", "take"):
            return f"{word} {balance}", self.done(tried(getattr(works, word), balance))
        if word == "undo":
            return word, "yes" if works.undo() else "no"
        if word == "standing":
            return word, " ".join(map(str, works.standing()))
        if word == "came":
            return word, str(works.came())
        if word == "out":
            return word, "; ".join(f"{name} {many}" for name, many in works.out())
        if word == "off":
            name = source.choice(exits_of(works.net()) + ["none"])
            if name == "none":
                return "off none", "refused NoExit"
            return f"off {name}", "{}/{}".format(*works.off(name))
        if word == "shares":
            told = sorted(shares_by_ways(works.net()).items())
            return word, "; ".join(f"{name} {share.numerator}/{share.denominator}" for name, share in told)
        if word == "round":
            starts, first = round_by_round(works.net(), works.standing(), grains)
            return f"round {in_figures}", f"{first} {len(starts) - first}"
        if word == "length":
            return f"length {in_figures}", str(length(grains))
        return word, "; ".join(f"{left} {right}" for left, right in works.net())

    def done(self, told):
        return "done" if told is None else f"refused {told[0]}"

    def test_the_same_text_asked_twice(self):
        text = "1 a\nb c\n\ndrop 5\nrow 3 1 2\nout\nundo\ncross 7\nstanding"
        first, second = answers(text), answers(text)
        self.assertEqual(first, second)
        self.assertIsNot(first, second)
        first.clear()
        self.assertEqual(answers(text), second)


class Refused(unittest.TestCase):
    def refuse(self, text, row):
        with self.assertRaises(BadRow) as caught:
            answers(text)
        self.assertIs(type(caught.exception), BadRow)
        self.assertEqual(vars(caught.exception), {"what": row}, text)

    def refuse_row(self, *rows):
        """Each row by itself, first of all and behind others, ahead of others that are wrong, too."""
        for row in rows:
            self.refuse(f"a b\n\n{row}", 2)
            self.refuse(f"1 a\nb c\n\ndrop 3\nundo\n{row}\nout", 5)
            self.refuse(f"a b\n\n{row}\nwrong", 2)

    def test_the_nets_rows(self):
        self.refuse("a\n\nout", 0)
        self.refuse("1 a\n\nout", 0)
        self.refuse("1 a\nb\n\nout", 1)
        self.refuse("1 a\nb 1\n\nout", 1)
        self.refuse("a b\nc d\n\nout", 1)
        self.refuse("a b\nc d\n\nwrong", 1)
        self.refuse("1 a\nb c\nd e\n\nout", 2)
        self.refuse("a b \n\nout", 0)
        self.refuse("1 a\nB c\n\nwrong\nwrong", 1)
        self.refuse("12345678901234 a\nb c\n\nout", 0)

    def test_no_net(self):
        self.refuse("", 0)
        self.refuse("\n", 0)
        self.refuse("\nout", 0)
        self.refuse("\n\n", 0)

    def test_no_empty_row(self):
        self.refuse("a b", 1)
        self.refuse("1 a\nb c", 2)
        self.refuse("1 2\na b\nc d", 3)
        # Behind what net_in refuses.
        self.refuse("a b\nout", 1)
        self.refuse("a b\ndrop 3", 1)
        self.refuse("a b\nc d", 1)
        self.refuse("1 a\nb c\nundo", 2)
        self.refuse("a", 0)
        self.refuse("1 a", 0)

    def test_a_second_empty_row(self):
        self.refuse("a b\n\n", 2)
        self.refuse("a b\n\n\nout", 2)
        self.refuse("a b\n\nout\n", 3)
        self.refuse("a b\n\nout\n\nwrong", 3)
        self.refuse("1 a\nb c\n\ndrop 3\nout\n", 5)

    def test_unknown_words(self):
        self.refuse_row("wrong", "Drop 3", "DROP 3", "hang a", "twin", "log", "deeds", "as_of 0", "a b", "1", "-", "drop3",
                        "out;", "undo\r", "\u00e4", "__eq__", "perform", "left")

    def test_words_that_lack_or_are_too_many(self):
        self.refuse_row("drop", "row", "row 1", "lay", "lay 0", "lay 0 left", "cross", "take", "off", "round", "length")
        self.refuse_row("drop 1 2", "lay 0 left 3 4", "cross 0 0", "take 0 0", "undo 1", "standing 0", "came 1", "out a",
                        "off a b", "shares a", "net 0", "undo undo")

    def test_blanks(self):
        self.refuse_row(" out", "out ", " ", "  ", "drop  3", " drop 3", "drop 3 ", "drop\t3", "row 1  2", "row 1 2 ",
                        "lay 0  left 3", "length ", "length 1 ", "round  1", "off  a", "off ", "undo ", "drop\u00a03")

    def test_weights(self):
        for wrong in NO_NUMBERS + ["0", "25", "26", "100", "9999999999999"]:
            self.refuse_row(f"drop {wrong}", f"row 1 {wrong}", f"row 1 2 {wrong} 3", f"row 1 {wrong} 3", f"row 1 3 {wrong}")
            self.refuse_row(f"round {wrong}", f"round 1 {wrong}", f"length {wrong}", f"length {wrong} 1", f"length 1 {wrong}")

    def test_pounds(self):
        for wrong in NO_NUMBERS + ["0", "25", "26", "9999999999999"]:
            self.refuse_row(f"lay 0 left {wrong}", f"lay 0 right {wrong}")

    def test_rounds_and_balances(self):
        for wrong in NO_NUMBERS:
            self.refuse_row(f"row {wrong} 1", f"lay {wrong} left 1", f"cross {wrong}", f"take {wrong}")

    def test_thirteen_figures(self):
        self.assertEqual(asked(ONE, "cross 1000000000000", "take 9999999999999"), ["refused NoBalance"] * 2)
        self.refuse_row("cross 10000000000000", "take 00000000000001", "row 10000000000000 1")

    def test_sides(self):
        for wrong in ("Left", "LEFT", "l", "lef", "leftt", "up", "0", "", "a", "left,"):
            self.refuse_row(f"lay 0 {wrong} 3")

    def test_names(self):
        for wrong in ("A", "aB", "abcdefghi", "a1", "1", "a-b", "-", "\u00e4", "\u0430", "a,"):
            self.refuse_row(f"off {wrong}")

    def test_the_first_row_ahead_of_all_answers(self):
        self.refuse("a b\n\ncross 9\nwrong\nworse\n", 3)
        self.refuse("1 a\nb\n\nwrong", 1)


if __name__ == "__main__":
    unittest.main()
