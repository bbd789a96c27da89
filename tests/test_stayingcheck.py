import copy
import unittest

from byhand import NAMED_WORDS, fold_each_by, run_of, runs_round_by_round, sizes_of, small_words, some_words
from panfalls.runs import is_run
from panfalls.staying import runs_to
from panfalls.stayingcheck import shows_staying
from things import ODD_THINGS

WORDS = NAMED_WORDS + small_words(3, 5) + some_words(21, 150)


def lesser(run):
    first, last = run
    return [told for told in ((first + 2, last), (first, last - 2)) if is_run(told)]


def wider(run):
    first, last = run
    return [told for told in ((first - 2, last), (first, last + 2), (first - 2, last + 2)) if is_run(told)]


def with_run(runs, at, run):
    return runs[:at] + [run] + runs[at + 1:]


def holds(word, runs):
    """What point [6] asks for, size by size."""
    sizes = [set(sizes_of(run)) for run in runs]
    made = [set(fold_each_by(sizes_of(run), word)) for run in runs]
    return (
        run_of(sizes[0]) == (1, 2 * max(word) - 1)
        and all(made[at] <= sizes[at + 1] for at in range(len(runs) - 1))
        and len(made[-1]) == len(sizes[-1])
        and made[-1] == sizes[-1]
    )


class Shown(unittest.TestCase):
    def test_what_runs_to_tells(self):
        for word in WORDS:
            self.assertIs(shows_staying(word, runs_to(word)), True, word)
            self.assertIs(shows_staying(word=word, thing=runs_round_by_round(word)), True, word)

    def test_a_run_told_more_than_once(self):
        for word in WORDS:
            runs = runs_to(word)
            for at in range(len(runs)):
                self.assertIs(shows_staying(word, runs[:at] + [runs[at]] + runs[at:]), True)

    def test_wider_runs_in_between(self):
        self.assertEqual(runs_to((5, 4)), [(1, 9), (1, 7), (1, 5), (1, 3), (1, 1)])
        self.assertIs(shows_staying((5, 4), [(1, 9), (1, 9), (1, 7), (1, 5), (1, 3), (1, 1)]), True)
        self.assertEqual(runs_to((8, 4, 2, 1)), [(1, 15), (1, 1)])
        self.assertIs(shows_staying((8, 4, 2, 1), [(1, 15), (1, 13), (1, 1)]), True)
        self.assertIs(shows_staying((8, 4, 2, 1), [(1, 15), (1, 17), (1, 1)]), True)
        self.assertIs(shows_staying((8, 4, 2, 1), [(1, 15), (1, 3), (1, 7), (1, 1)]), True)

    def test_wider_runs_beside_each_size(self):
        told = {True: 0, False: 0}
        for word in WORDS:
            runs = runs_to(word)
            for at in range(1, len(runs) - 1):
                for run in wider(runs[at]):
                    thing = with_run(runs, at, run)
                    self.assertIs(shows_staying(word, thing), holds(word, thing), (word, thing))
                    told[holds(word, thing)] += 1
        self.assertGreater(told[True], 10)
        self.assertGreater(told[False], 10)


class NotShown(unittest.TestCase):
    def refuse(self, word, thing):
        self.assertIs(shows_staying(word, thing), False, (word, thing))

    def test_first_or_last_run_wider(self):
        for word in WORDS:
            runs = runs_to(word)
            for run in wider(runs[0]):
                self.refuse(word, with_run(runs, 0, run))
            for run in wider(runs[-1]):
                self.refuse(word, with_run(runs, len(runs) - 1, run))

    def test_any_run_lesser(self):
        for word in WORDS:
            runs = runs_to(word)
            for at, run in enumerate(runs):
                for other in lesser(run):
                    self.refuse(word, with_run(runs, at, other))

    def test_any_run_left_out(self):
        for word in WORDS:
            runs = runs_to(word)
            for at in range(len(runs)):
                self.refuse(word, runs[:at] + runs[at + 1:])

    def test_another_one_first(self):
        for word in WORDS:
            runs = runs_to(word)
            for other in [(1, 2 * max(word) + 1), (3, 2 * max(word) + 1)] + lesser(runs[0]):
                self.refuse(word, [other] + runs)

    def test_last_one_alone(self):
        for word in WORDS:
            runs = runs_to(word)
            if len(runs) > 1:
                self.refuse(word, runs[-1:])

    def test_something_behind_the_last_one(self):
        for word in WORDS:
            runs = runs_to(word)
            for other in wider(runs[-1]) + lesser(runs[-1]):
                self.refuse(word, runs + [other])

    def test_a_last_one_that_is_moved_about(self):
        # (2,) makes (1, 1) of (3, 3) and (3, 3) of (1, 1): neither is itself behind one round.
        self.assertIs(shows_staying((2,), [(1, 3)]), True)
        self.refuse((2,), [(1, 3), (1, 1)])
        self.refuse((2,), [(1, 3), (3, 3)])
        self.refuse((2,), [(1, 3), (1, 5)])

    def test_wrong_forms(self):
        for word in WORDS:
            runs = runs_to(word)
            self.refuse(word, tuple(runs))
            self.refuse(word, [runs])
            self.refuse(word, [])
            self.refuse(word, ())
            for at, run in enumerate(runs):
                self.refuse(word, with_run(runs, at, list(run)))
                self.refuse(word, with_run(runs, at, run + (run[1],)))
                self.refuse(word, with_run(runs, at, run[:1]))
                for wrong in (None, 1, True, "1", (), [], (1, 2), (0, 1), (3, 1), (run,)):
                    self.refuse(word, with_run(runs, at, wrong))

    def test_true_for_one(self):
        for word in WORDS:
            runs = runs_to(word)
            for at, run in enumerate(runs):
                if run[0] == 1:
                    self.refuse(word, with_run(runs, at, (True, run[1])))
                if run[1] == 1:
                    self.refuse(word, with_run(runs, at, (1, True)))

    def test_things_of_any_kind(self):
        for word in ((1,), (2, 1), (24,) * 12):
            for thing in ODD_THINGS + [0, 1, -1, (1, 1), (1, 3), (1, 47)]:
                self.refuse(word, thing)

    def test_the_bare_word_has_no_staying_run(self):
        for thing in ODD_THINGS + [[(1, 1)], [(1, 3)], 1, -1]:
            self.refuse((), thing)


class Kept(unittest.TestCase):
    def test_what_is_looked_at_stays(self):
        for word in WORDS[:60]:
            for thing in (runs_to(word), [list(run) for run in runs_to(word)], [[[1, 3]], (1, [3])]):
                before = copy.deepcopy(thing)
                first = shows_staying(word, thing)
                self.assertEqual(thing, before)
                self.assertIs(shows_staying(word, thing), first)

    def test_no_bounds_are_looked_at(self):
        self.assertIs(shows_staying((10 ** 12,), [(1, 2 * 10 ** 12 - 1)]), True)
        self.assertIs(shows_staying((10 ** 12,), [(1, 2 * 10 ** 12 - 1)] * 1000), True)
        self.assertIs(shows_staying((10 ** 12,), [(1, 10 ** 40 + 1)]), False)
        self.assertIs(shows_staying((3,) * 400, [(1, 5)]), True)


if __name__ == "__main__":
    unittest.main()
