import copy
import itertools
import unittest

from byhand import NAMED_WORDS, drop_each, fold_each_by, sizes_of, small_words, some_words
from panfalls.meeting import apart_paper, meeting
from panfalls.meetingcheck import shows_apart
from panfalls.staying import staying
from things import ODD_THINGS

WORDS = NAMED_WORDS + small_words(3, 4) + some_words(51, 60)
MOST = 10 ** 9
# Starts, a word and a right paper: by grains of 5 each size below 10 is s, 10 - s, s, ..
RIGHT = (1, 27, (5,), (2, (1, 9)))


def holds(one, other, word, paper):
    """What point [8] asks of a pair of a number and a run, grain by grain and size by size."""
    rounds, run = paper
    one, other = drop_each(one, word * rounds)[0], drop_each(other, word * rounds)[0]
    sizes = sizes_of(run)
    if abs(one) == abs(other) or abs(one) not in sizes or abs(other) not in sizes:
        return False
    for at in range(len(word)):
        if len(fold_each_by(sizes, word[:at + 1])) != len(sizes):
            return False
    return fold_each_by(sizes, word) == sizes


def apart_starts(words):
    for word in words:
        for one, other in itertools.combinations((1, -3, 9, -23, 47, 61, -401), 2):
            if meeting(one, other, word) == ("apart",):
                yield one, other, word


class Shown(unittest.TestCase):
    def test_by_hand(self):
        one, other, word, paper = RIGHT
        self.assertIs(shows_apart(one, other, word, paper), True)
        self.assertIs(shows_apart(one=one, other=other, word=word, thing=paper), True)
        self.assertIs(shows_apart(other, one, word, paper), True)
        self.assertIs(shows_apart(-other, one, word, paper), True)
        # 27 is 17, 7, 3 by grains of 5; 1 is 9, 1, 9.
        self.assertIs(shows_apart(one, other, word, (2, (1, 9))), True)
        self.assertIs(shows_apart(one, other, word, (1, (1, 9))), False)

    def test_more_rounds(self):
        one, other, word, paper = RIGHT
        for rounds in (2, 3, 4, 100, 12345, MOST - 1, MOST):
            self.assertIs(shows_apart(one, other, word, (rounds, (1, 9))), True)
        many = 0
        for one, other, word in apart_starts(WORDS):
            rounds, run = apart_paper(one, other, word)
            for more in (1, 2, 17, MOST - rounds):
                many += 1
                self.assertIs(shows_apart(one, other, word, (rounds + more, run)), True)
        self.assertGreater(many, 400)

    def test_any_run_beside_each_size(self):
        # Narrower runs than the staying one are right where they are whole and made of themselves.
        told = {True: 0, False: 0}
        runs = [(a, b) for a in range(1, 12, 2) for b in range(a, 14, 2)]
        words = [(5,), (1, 1), (6,), (2, 2), (3, 1, 2), (5, 5), (4, 1, 3), (1, 2), (1, 2, 3, 4, 6)]
        for word in words:
            for one, other in ((1, 3), (-1, 5), (3, 7), (9, -5), (1, 9), (5, 5), (3, -3), (21, 7)):
                for rounds in range(4):
                    for run in runs:
                        paper = (rounds, run)
                        expected = holds(one, other, word, paper)
                        self.assertIs(shows_apart(one, other, word, paper), expected, (one, other, word, paper))
                        told[expected] += 1
        self.assertGreater(min(told.values()), 100)

    def test_a_wider_run_that_is_whole(self):
        for run in ((5, 7), (3, 9), (1, 11)):
            self.assertIs(shows_apart(5, 7, (6,), (0, run)), True)
        self.assertIs(shows_apart(5, 7, (6,), (0, (1, 13))), False)
        self.assertIs(shows_apart(5, 7, (6,), (0, (3, 11))), False)

    def test_bare_word_any_run_that_has_both(self):
        for rounds in (0, 1, 7, MOST):
            for run in ((3, 9), (1, 9), (3, 11), (1, 10 ** 40 + 1)):
                self.assertIs(shows_apart(3, -9, (), (rounds, run)), True)
            for run in ((3, 7), (5, 9), (5, 7), (11, 13)):
                self.assertIs(shows_apart(3, -9, (), (rounds, run)), False)

    def test_far_starts(self):
        paper = apart_paper(MOST + 1, 1, (24,))
        self.assertIs(shows_apart(MOST + 1, 1, (24,), paper), True)
        self.assertIs(shows_apart(-MOST - 1, -1, (24,), (paper[0] + 1, paper[1])), True)
        self.assertIs(shows_apart(MOST + 1, 1, (24,), (paper[0] - 1, paper[1])), False)


class NotShown(unittest.TestCase):
    def refuse(self, one, other, word, thing):
        self.assertIs(shows_apart(one, other, word, thing), False, (one, other, word, thing))

    def test_rounds_out_of_bounds(self):
        for one, other, word in apart_starts(WORDS[:60] + [()]):
            run = apart_paper(one, other, word)[1]
            for rounds in (-1, -2, -MOST, MOST + 1, MOST + 2, 10 ** 12, 10 ** 40):
                self.refuse(one, other, word, (rounds, run))

    def test_too_few_rounds(self):
        many = 0
        for one, other, word in apart_starts(WORDS):
            rounds, run = apart_paper(one, other, word)
            if rounds:
                many += 1
                # The told rounds are the fewest from which on both sizes are in the staying run.
                self.assertEqual(run, staying(word))
                self.refuse(one, other, word, (rounds - 1, run))
        self.assertGreater(many, 100)

    def test_true_for_a_number(self):
        self.assertIs(shows_apart(1, 3, (2,), (1, (1, 3))), True)
        self.assertIs(shows_apart(1, 3, (2,), (0, (1, 3))), True)
        self.refuse(1, 3, (2,), (True, (1, 3)))
        self.refuse(1, 3, (2,), (False, (1, 3)))
        self.refuse(1, 3, (2,), (1, (True, 3)))
        self.refuse(1, 3, (), (0, (True, 3)))

    def test_a_run_that_is_parted(self):
        # The staying run of (5,) is (1, 9); what is wider has 11, which is folded upon 1.
        one, other, word, paper = RIGHT
        self.refuse(one, other, word, (2, (1, 11)))
        # The grain of 1 parts the run, though both sizes of the two stay unlike.
        self.refuse(3, 5, (1, 1), (0, (1, 5)))

    def test_a_run_that_is_not_made_of_itself(self):
        # Whole by the word, but moved.
        self.refuse(1, 3, (5,), (0, (1, 3)))
        self.refuse(7, 9, (1,), (0, (7, 9)))
        self.refuse(7, 9, (1, 2), (0, (7, 9)))
        self.assertIs(shows_apart(3, 7, (5,), (0, (3, 7))), True)

    def test_a_run_that_lacks_one_of_the_sizes(self):
        # By two grains of 5 each run below 10 is made itself.
        self.assertIs(shows_apart(3, 5, (5, 5), (0, (3, 5))), True)
        self.assertIs(shows_apart(3, 5, (5, 5), (0, (1, 7))), True)
        self.refuse(3, 5, (5, 5), (0, (5, 7)))
        self.refuse(3, 5, (5, 5), (0, (1, 3)))
        self.refuse(3, 5, (5, 5), (0, (7, 9)))

    def test_sizes_that_are_one(self):
        for word in WORDS[:40] + [()]:
            run = staying(word) if word else (1, 10 ** 10 + 1)
            for size in (1, 3, 47, 401, MOST - 1):
                for one, other in ((size, size), (size, -size), (-size, size), (-size, -size)):
                    for rounds in (0, 1, 30, MOST):
                        self.refuse(one, other, word, (rounds, run))

    def test_starts_that_meet(self):
        for word in WORDS:
            for one, other in ((1, 3), (-1, 49), (27, -401), (1, 2 * max(word) + 1)):
                if meeting(one, other, word) != ("apart",):
                    for rounds in (0, 1, 5, 40, MOST):
                        self.refuse(one, other, word, (rounds, staying(word)))

    def test_wrong_forms(self):
        for one, other, word in apart_starts(WORDS[:60] + [()]):
            rounds, run = paper = apart_paper(one, other, word)
            wrong = [
                list(paper), (rounds, list(run)), [rounds, list(run)], (run, rounds), paper + (run,), paper + (0,),
                (rounds,), (run,), rounds, run, (rounds,) + run, (paper,), [paper], (rounds, (run,)),
                (rounds, run + run[:1]), (rounds, run[:1]), (rounds, ()), (rounds, None), (None, run), (), [],
                (str(rounds), run), ("", run), (rounds, str(run)), ((rounds,), run), ([rounds], run), (rounds, rounds),
                (rounds, (run[1] + 2, run[1])), (rounds, (run[0] - 1, run[1])), (rounds, (run[0], run[1] + 1)),
                (rounds, (-run[0], run[1])), (rounds, (-1, run[1])),
            ]
            for thing in wrong:
                self.refuse(one, other, word, thing)

    def test_things_of_any_kind(self):
        for word in ((), (2,), (24,) * 12):
            for thing in ODD_THINGS + [0, 1, -1, (), (1, 3), (0, 0), ((0, (1, 3)),)]:
                self.refuse(1, 3, word, thing)

    def test_what_is_looked_at_stays(self):
        one, other, word, paper = RIGHT
        for thing in (paper, list(paper), [2, [1, 9]], (2, [1, 9]), [[2], [(1, 9)]]):
            before = copy.deepcopy(thing)
            first = shows_apart(one, other, word, thing)
            self.assertEqual(thing, before)
            self.assertIs(shows_apart(one, other, word, thing), first)


if __name__ == "__main__":
    unittest.main()
