"""Looks at what is said to be the runs to a word's staying run."""

from panfalls.runs import behind, is_run, is_within, stays_whole


def is_list_of_runs(thing):
    return isinstance(thing, list) and all([is_run(part) for part in thing])


def goes_on(word, runs):
    """Whether what the word makes of each run is within the next one."""
    return all([is_within(behind(run, word), later) for run, later in zip(runs, runs[1:])])


def shows_staying(word, thing):
    """Whether thing is a list of runs that shows its last one to be the word's staying run."""
    if not is_list_of_runs(thing) or not thing:
        return False
    # The bare word has no greatest weight, so no run is the first one.
    if not word or thing[0] != (1, 2 * max(word) - 1):
        return False
    return goes_on(word, thing) and stays_whole(thing[-1], word)
