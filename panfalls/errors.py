"""The refusals: each a class of its own, with the one field what."""


class NoBalance(LookupError):
    """There is no balance of that number."""

    def __init__(self, what):
        self.what = what


class NoExit(LookupError):
    """There is no exit of that name."""

    def __init__(self, what):
        self.what = what


class NoDeed(LookupError):
    """There are not so many deeds that stand."""

    def __init__(self, what):
        self.what = what


class Needed(RuntimeError):
    """The two pans of that balance have unlike leads."""

    def __init__(self, what):
        self.what = what


class Lone(RuntimeError):
    """That balance is balance 0, and leads to an exit alone."""

    def __init__(self, what):
        self.what = what


class Deep(OverflowError):
    """There would be so many levels."""

    def __init__(self, what):
        self.what = what


class Many(OverflowError):
    """There would be so many balances."""

    def __init__(self, what):
        self.what = what


class BadRow(ValueError):
    """The row of that number isn't written as it must be."""

    def __init__(self, what):
        self.what = what
