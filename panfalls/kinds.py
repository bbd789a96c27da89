"""What the modules that look at things of any kind have in common."""


def is_number(thing):
    # True and False are ints to Python, but no numbers here.
    return isinstance(thing, int) and not isinstance(thing, bool)
