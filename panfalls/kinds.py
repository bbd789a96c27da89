"""What the modules that look at things of any kind have in common."""

LETTERS = "abcdefghijklmnopqrstuvwxyz"


def is_number(thing):
    # True and False are ints to Python, but no numbers here.
    return isinstance(thing, int) and not isinstance(thing, bool)


def is_name(thing):
    if not isinstance(thing, str) or not 1 <= len(thing) <= 8:
        return False
    return all([sign in LETTERS for sign in thing])


def is_pair(thing):
    return isinstance(thing, tuple) and len(thing) == 2
