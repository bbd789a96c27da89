"""What runs and rounds come to when each size and each grain is gone through by itself."""

import random


def sizes_of(run):
    return list(range(run[0], run[1] + 1, 2))


def fold_each(sizes, weight):
    return sorted({abs(size - 2 * weight) for size in sizes})


def fold_each_by(sizes, word):
    for weight in word:
        sizes = fold_each(sizes, weight)
    return sizes


def run_of(sizes):
    """The run that has just these sizes; it fails where there's none."""
    run = (min(sizes), max(sizes))
    assert sizes_of(run) == sorted(sizes), sizes
    return run


def runs_round_by_round(word):
    sizes = list(range(1, 2 * max(word), 2))
    runs = [run_of(sizes)]
    while True:
        sizes = fold_each_by(sizes, word)
        if run_of(sizes) == runs[-1]:
            return runs
        runs.append(run_of(sizes))


def drop_each(standing, grains):
    """The standing behind all grains, and the pounds left and right."""
    left = right = 0
    for weight in grains:
        if standing < 0:
            standing += 2 * weight
            left += weight
        else:
            standing -= 2 * weight
            right += weight
    return standing, (left, right)


def grains_of(word, many):
    """The first so many grains of a word that comes again and again."""
    return [word[at % len(word)] for at in range(many)]


def settled_round_by_round(standing, word):
    """The fewest rounds from which on the standing comes back, and behind how many it does."""
    seen = {}
    at = 0
    while standing not in seen:
        seen[standing] = at
        standing = drop_each(standing, word)[0]
        at += 1
    return seen[standing], at - seen[standing]


def some_words(seed, many, most_grains=12, most_weight=24):
    source = random.Random(seed)
    words = []
    for _ in range(many):
        most = source.randint(1, most_weight)
        grains = source.randint(1, most_grains)
        words.append(tuple(source.randint(1, most) for _ in range(grains)))
    return words


def small_words(most_grains, most_weight):
    """All words of 1 to so many grains, of weights 1 to so much."""
    words = []
    last = [()]
    for _ in range(most_grains):
        last = [word + (weight,) for word in last for weight in range(1, most_weight + 1)]
        words += last
    return words


NAMED_WORDS = (
    [(weight,) for weight in range(1, 25)]
    + [(most, most - 1) for most in range(2, 25)]
    + [tuple(2 ** at for at in range(n, -1, -1)) for n in range(5)]
    + [(24,) * 12, (1,) * 12, tuple(range(1, 13)), tuple(range(24, 12, -1)), (24, 1) * 6]
)
