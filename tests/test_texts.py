import random
import unittest

from byhand import some_words
from netsbyhand import BOTH_TO_ONE, CHAIN, NAMED_NETS, NEEDLESS, ONE, TOGETHER, TWO_LEVELS, WIDE, some_nets
from panfalls.errors import BadRow
from panfalls.falls import is_word
from panfalls.nets import is_net
from panfalls.texts import net_in, net_text, word_in, word_text

NETS = NAMED_NETS + some_nets(201, 200)
SIGNS = "0123456789 -abz\n\tA.+_" + "\u0663\u00b2\u00e4\u2028\u00a0\r\x0b"
# None of these is plain figures, though int may read some of them.
NO_FIGURES = [
    "", " ", "00", "01", "007", "+1", "-1", "-0", "1_0", "1.0", "1e3", "0x1", " 1", "1 ", "1\t", "\n1", "1,2", "#", "^",
    "\u0661", "\u00b2", "\u2460", "\uff11", "1\u0661", "\u00bd", "A", "--", "(1)", "1;", "1\x00", "1\r", "1x", "2a", "1 x",
]


class Refusing(unittest.TestCase):
    def refuse(self, ask, text, row):
        with self.assertRaises(BadRow) as caught:
            ask(text)
        self.assertIs(type(caught.exception), BadRow)
        self.assertEqual(vars(caught.exception), {"what": row}, text)


class Words(Refusing):
    def test_sign_by_sign(self):
        self.assertEqual(word_text(()), "-")
        self.assertEqual(word_text((1,)), "1")
        self.assertEqual(word_text((24, 1, 10)), "24 1 10")
        self.assertEqual(word_text(word=(7, 7)), "7 7")
        self.assertEqual(word_text((10 ** 12, 10 ** 18, 10 ** 18 + 5, 10 ** 36 - 1)),
                         "1000000000000 1000000000000000000 1000000000000000005 " + "9" * 36)

    def test_read_back(self):
        for word in [()] + some_words(202, 300) + [(10 ** power,) for power in range(60)]:
            self.assertEqual(word_text(word), " ".join(map(str, word)) or "-")
            told = word_in(word_text(word))
            self.assertEqual(told, word)
            self.assertIs(is_word(told), True)
        self.assertEqual(word_in(text="3 1"), (3, 1))
        self.assertEqual(word_in("-"), ())

    def test_very_long_numbers(self):
        for many in (17, 18, 19, 35, 36, 37, 900, 4300, 4301, 9999):
            told = word_in("1" + "0" * many + " 7")
            self.assertEqual(told, (10 ** many, 7))
            self.assertEqual(word_text(told), "1" + "0" * many + " 7")
            told = word_in("9" * many)
            self.assertEqual(told, (10 ** many - 1,))
            self.assertEqual(word_text(told), "9" * many)
        self.refuse(word_in, "0" + "1" * 5000, 0)
        self.refuse(word_in, "1" * 5000 + "a", 0)

    def test_spoilt(self):
        for text in NO_FIGURES + ["0", "\n", "1\n", "1\n2", "a", "1 a"]:
            self.refuse(word_in, text, 0)

    def test_spoilt_among_others(self):
        for wrong in NO_FIGURES + ["0", "-", "a"]:
            for text in (f"{wrong} 3", f"3 {wrong}", f"3 {wrong} 4", f"{wrong} {wrong}"):
                if text not in ("-", "3 "):
                    self.refuse(word_in, text, 0)

    def test_blanks(self):
        for text in (" 1 2", "1 2 ", "1  2", " -", "- ", "- -", " ", "  ", "1\t2", "1\u00a02", "\t1", "1 2\n", "1 2 -"):
            self.refuse(word_in, text, 0)

    def test_any_text_is_a_words_or_refused(self):
        source = random.Random(203)
        read = 0
        for _ in range(20000):
            text = "".join(source.choice("0123 -" if source.random() < 0.7 else SIGNS) for _ in range(source.randint(0, 6)))
            try:
                word = word_in(text)
            except BadRow as refusal:
                self.assertEqual(refusal.what, 0)
            else:
                self.assertIs(is_word(word), True)
                self.assertEqual(word_text(word), text)
                read += 1
        self.assertGreater(read, 500)


class Nets(Refusing):
    def test_sign_by_sign(self):
        self.assertEqual(net_text(ONE), "a b")
        self.assertEqual(net_text(BOTH_TO_ONE), "a a")
        self.assertEqual(net_text(TWO_LEVELS), "1 2\na b\nc d")
        self.assertEqual(net_text(net=NEEDLESS), "1 b\na a")
        self.assertEqual(net_text(WIDE), "1 2\n3 4\n5 6\n7 a\na b\nc d\nzz a\nb abcdefgh")

    def test_read_back(self):
        for net in NETS:
            self.assertEqual(net_text(net), "\n".join(f"{left} {right}" for left, right in net))
            told = net_in(net_text(net))
            self.assertEqual(told, net)
            self.assertIs(is_net(told), True)
        self.assertEqual(net_in(text="1 b\na a"), NEEDLESS)

    def test_more_balances_than_ten(self):
        chain = tuple((balance + 1, "a") for balance in range(130)) + (("b", "c"),)
        self.assertEqual(net_in(net_text(chain)), chain)

    def test_the_empty_text_and_line_feeds(self):
        self.refuse(net_in, "", 0)
        self.refuse(net_in, "\n", 0)
        self.refuse(net_in, "\na b", 0)
        self.refuse(net_in, "a b\n", 1)
        self.refuse(net_in, "1 a\nb c\n", 2)
        self.refuse(net_in, "1 a\n\nb c", 1)
        # The empty row behind is a row, so what leads to balance 1 does lead to one.
        self.refuse(net_in, "1 a\n", 1)
        self.refuse(net_in, "2 a\n", 0)

    def test_blanks(self):
        for row in (" a b", "a b ", "a  b", " a", "a ", "ab", "a\tb", "a", " ", "a b c", "a\u00a0b", "a b\r", "a b\x0b"):
            self.refuse(net_in, row, 0)
            self.refuse(net_in, f"1 z\n{row}", 1)
            self.refuse(net_in, f"{row}\nc d", 0)

    def test_wrong_leads(self):
        for wrong in NO_FIGURES + ["-", "abcdefghi", "aB", "a1", "1a", "a-b", "\u00e4", "\u0430"]:
            if "\n" not in wrong:
                self.refuse(net_in, f"{wrong} b", 0)
                self.refuse(net_in, f"b {wrong}", 0)
                self.refuse(net_in, f"1 b\na {wrong}", 1)

    def test_leads_to_no_balance_further_on(self):
        self.refuse(net_in, "0 a", 0)
        self.refuse(net_in, "1 a", 0)
        self.refuse(net_in, "a 1", 0)
        self.refuse(net_in, "1 a\nb 0", 1)
        self.refuse(net_in, "1 a\n1 b", 1)
        self.refuse(net_in, "1 a\nb 2", 1)
        self.refuse(net_in, "1 2\na b", 0)
        for many in (19, 4301, 9999):
            self.refuse(net_in, "9" * many + " a", 0)
            self.refuse(net_in, "1 b\na 1" + "0" * many, 1)

    def test_a_balance_to_which_no_pan_leads(self):
        self.refuse(net_in, "a b\nc d", 1)
        self.refuse(net_in, "1 a\nb c\nd e", 2)
        self.refuse(net_in, "2 a\nb c\nd e", 1)
        self.refuse(net_in, "3 3\na b\nc d\ne f", 1)
        self.refuse(net_in, "a b\nc d\ne f", 1)

    def test_spoilt_rows_go_ahead_of_balances_not_led_to(self):
        self.refuse(net_in, "a b\nc d\ne", 2)
        self.refuse(net_in, "a b\nc d\ne 3", 2)
        self.refuse(net_in, "a b\nc d\n", 2)
        self.refuse(net_in, "a b\nc d\ne 2\nA b", 2)

    def test_the_first_of_several(self):
        self.refuse(net_in, "1 a\nx\ny", 1)
        self.refuse(net_in, "9 a\nx\ny", 0)
        self.refuse(net_in, "1 2\nb c\n0 a\n\n", 2)

    def test_any_text_is_a_nets_or_refused(self):
        source = random.Random(204)
        read = 0
        for _ in range(30000):
            rows = []
            for _ in range(source.randint(1, 3)):
                leads = [source.choice(("1", "2", "a", "b", "zz", "0", "3", "", "A", "01")) for _ in range(2)]
                rows.append(source.choice((" ", " ", " ", " ", "  ", "", "\t")).join(leads))
            text = "\n".join(rows)
            try:
                net = net_in(text)
            except BadRow as refusal:
                self.assertIn(refusal.what, range(len(rows)), text)
            else:
                self.assertIs(is_net(net), True, text)
                self.assertEqual(net_text(net), text)
                read += 1
        self.assertGreater(read, 500)

    def test_spoilt_nets(self):
        source = random.Random(205)
        for net in NETS[:120]:
            rows = net_text(net).split("\n")
            at = source.randrange(len(rows))
            for spoilt in ("", " " + rows[at], rows[at] + " ", rows[at].replace(" ", "  "), rows[at] + " a", "A b",
                           f"{at} a", f"a {len(rows)}", f"a 0{at + 1}", rows[at].split(" ")[0]):
                self.refuse(net_in, "\n".join(rows[:at] + [spoilt] + rows[at + 1:]), at)
            self.refuse(net_in, "\n".join(rows + ["a b"]), len(rows))


class Handed(unittest.TestCase):
    def test_asking_is_told_the_same_each_time(self):
        for net in (CHAIN, TOGETHER):
            self.assertEqual(net_text(net), net_text(net))
            self.assertEqual(net_in(net_text(net)), net_in(net_text(net)))
        self.assertEqual(word_in("1 2"), word_in("1 2"))


if __name__ == "__main__":
    unittest.main()
