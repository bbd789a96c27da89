"""Words and nets as texts, and read from texts."""

from panfalls.errors import BadRow
from panfalls.kinds import is_name, is_number
from panfalls.nets import balances_led_to

FIGURES = "0123456789"
BARE = "-"
# Python refuses to turn very long numbers into figures, or back, at once: they are cut into groups.
GROUP = 18
GROUP_END = 10 ** 18


def figures_of(number):
    """The plain figures of a number from 0."""
    groups = []
    rest = number
    while rest >= GROUP_END:
        rest, group = divmod(rest, GROUP_END)
        groups.append(f"{group:018d}")
    groups.append(str(rest))
    return "".join(groups[::-1])


def is_plain(text):
    """Whether text is plain figures, with no nought ahead but 0."""
    if not text or not all([sign in FIGURES for sign in text]):
        return False
    return text == "0" or text[0] != "0"


def number_in(text):
    """The number whose plain figures text is, or None."""
    if not is_plain(text):
        return None
    number = 0
    padded = "0" * (-len(text) % GROUP) + text
    for start in range(0, len(padded), GROUP):
        number = number * GROUP_END + int(padded[start:start + GROUP])
    return number


def word_text(word):
    if not word:
        return BARE
    return " ".join([figures_of(weight) for weight in word])


def net_text(net):
    return "\n".join([f"{left} {right}" for left, right in net])


def word_in(text):
    """The word whose text it is; BadRow(0) where there's none."""
    if text == BARE:
        return ()
    weights = [number_in(part) for part in text.split(" ")]
    if not all([is_number(weight) and weight >= 1 for weight in weights]):
        raise BadRow(0)
    return tuple(weights)


def lead_in(text):
    """The NAME or the number that text is, or None."""
    if is_name(text):
        return text
    return number_in(text)


def is_lead_among(lead, balance, many):
    """Whether a lead from that balance is a NAME, or one of so many balances, further on."""
    if is_number(lead):
        return balance < lead < many
    return is_name(lead)


def net_in(text):
    """The net whose text it is; BadRow(row) where there's none."""
    rows = text.split("\n")
    pairs = []
    for at, row in enumerate(rows):
        pair = tuple([lead_in(part) for part in row.split(" ")])
        if len(pair) != 2 or not all([is_lead_among(lead, at, len(rows)) for lead in pair]):
            raise BadRow(at)
        pairs.append(pair)
    led_to = set(balances_led_to(pairs))
    for balance in range(1, len(pairs)):
        if balance not in led_to:
            raise BadRow(balance)
    return tuple(pairs)
