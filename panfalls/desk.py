"""A desk: a text of a net and of deeds and asks, row by row, and the texts that answer them."""

from panfalls.coming import comes_round
from panfalls.errors import BadRow, Lone, Needed, NoBalance, NoExit
from panfalls.kinds import is_name
from panfalls.shares import shares
from panfalls.staying import length
from panfalls.texts import net_in, net_text, number_in
from panfalls.words import LEFT, RIGHT
from panfalls.works import Works

MOST_FIGURES = 13
MOST_WEIGHT = 24


def count_in(text):
    """The number from 0 that a word of a row is, or None."""
    if len(text) > MOST_FIGURES:
        return None
    return number_in(text)


def weight_in(text):
    count = count_in(text)
    if count is None or not 1 <= count <= MOST_WEIGHT:
        return None
    return count


def side_in(text):
    return text if text in (LEFT, RIGHT) else None


def name_in(text):
    return text if is_name(text) else None


def pairs_text(pairs):
    return "; ".join([f"{name} {what}" for name, what in pairs])


def fraction_text(fraction):
    top, bottom = fraction
    return f"{top}/{bottom}"


def answer_drop(works, given):
    return works.drop(given[0])


def answer_row(works, given):
    rounds, *word = given
    return pairs_text(works.row(tuple(word), rounds))


def answer_lay(works, given):
    balance, side, pounds = given
    works.lay((balance, side), pounds)
    return "done"


def answer_cross(works, given):
    works.cross(given[0])
    return "done"


def answer_take(works, given):
    works.take(given[0])
    return "done"


def answer_undo(works, given):
    return "yes" if works.undo() else "no"


def answer_standing(works, given):
    return " ".join([str(part) for part in works.standing()])


def answer_came(works, given):
    return str(works.came())


def answer_out(works, given):
    return pairs_text(works.out())


def answer_off(works, given):
    return fraction_text(works.off(given[0]))


def answer_shares(works, given):
    return pairs_text([(name, fraction_text(share)) for name, share in shares(works.net())])


def answer_round(works, given):
    first, rounds = comes_round(works.net(), works.standing(), tuple(given))
    return f"{first} {rounds}"


def answer_length(works, given):
    return str(length(tuple(given)))


def answer_net(works, given):
    return net_text(works.net()).replace("\n", "; ")


ANSWERS = {
    "drop": answer_drop,
    "row": answer_row,
    "lay": answer_lay,
    "cross": answer_cross,
    "take": answer_take,
    "undo": answer_undo,
    "standing": answer_standing,
    "came": answer_came,
    "out": answer_out,
    "off": answer_off,
    "shares": answer_shares,
    "round": answer_round,
    "length": answer_length,
    "net": answer_net,
}
# What reads each word behind the first one, told only of rows that have any.
READERS = {
    "drop": (weight_in,),
    "row": (count_in, weight_in),
    "lay": (count_in, side_in, weight_in),
    "cross": (count_in,),
    "take": (count_in,),
    "off": (name_in,),
    "round": (weight_in,),
    "length": (weight_in,),
}
# Rows whose last reader reads all further words, too.
WITH_WORDS = ("row", "round", "length")


def readers_of(first, many):
    """The list of what reads so many words behind the first one of a row, as many as there must be."""
    readers = list(READERS.get(first, ()))
    if first in WITH_WORDS:
        readers += readers[-1:] * (many - len(readers))
    return readers


def ask_in(row, at):
    """The pair of the first word of a row and the list of what the others tell; BadRow(at) of what is no row."""
    first, *others = row.split(" ")
    readers = readers_of(first, len(others))
    if first not in ANSWERS or len(readers) != len(others):
        raise BadRow(at)
    given = [reader(other) for reader, other in zip(readers, others)]
    if None in given:
        raise BadRow(at)
    return (first, given)


def answer(works, first, given):
    """The answer to a row: the deed is done, the ask is asked."""
    tell = ANSWERS[first]
    try:
        return tell(works, given)
    except NoBalance:
        return "refused NoBalance"
    except NoExit:
        return "refused NoExit"
    except Needed:
        return "refused Needed"
    except Lone:
        return "refused Lone"


def answers(text):
    """The list of a text for each deed and ask; BadRow(row), ahead of all, of a row that isn't written so."""
    rows = text.split("\n")
    if "" not in rows:
        net_in(text)
        raise BadRow(len(rows))
    gap = rows.index("")
    net = net_in("\n".join(rows[:gap]))
    asks = [ask_in(row, at) for at, row in enumerate(rows) if at > gap]
    works = Works(net)
    told = []
    for first, given in asks:
        told.append(answer(works, first, given))
    return told
