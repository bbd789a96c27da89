"""What a word makes of all small sizes at once, and words that act alike.

A strip is a list of pairs (size, changed), for the sizes 1, 3, .. in turn.
"""

from panfalls.falls import falls, lighter


def sizes_to(most):
    """All sizes below 2 * most."""
    return list(range(1, 2 * most, 2))


def size_behind(size, word):
    """The pair of what the word makes of a size, and whether the lighter side is another one then."""
    # Both sides of 0 act alike, so the start above 0 tells for both.
    after = falls(size, word)[1]
    return (abs(after), lighter(after) != lighter(size))


def strip(word, most):
    return [size_behind(size, word) for size in sizes_to(most)]


def acts_alike(one, other, most):
    return strip(one, most) == strip(other, most)


def layers(word, most):
    """The rising list of pairs of a size that comes of some, and the tuple of those."""
    comes_of = {}
    for size in sizes_to(most):
        made = size_behind(size, word)[0]
        comes_of.setdefault(made, []).append(size)
    return [(made, tuple(comes_of[made])) for made in sorted(comes_of)]


def strip_of(first, second):
    """The strip of two words one behind the other, from the strips of each."""
    told = []
    for size, changed in first:
        made, again = second[size // 2]
        told.append((made, changed != again))
    return told


def one_grain_more(words, level, grains):
    """The new strips that a grain behind those of the level makes; their words are put into words."""
    made_now = []
    for now in level:
        for at, grain in enumerate(grains):
            made = tuple(strip_of(now, grain))
            if made not in words:
                words[made] = words[now] + (at + 1,)
                made_now.append(made)
    return made_now


def least_word(word, most):
    """The first of the shortest words, of weights to most, whose strip is the word's."""
    wanted = tuple(strip(word, most))
    grains = [strip((weight,), most) for weight in range(1, most + 1)]
    level = [tuple(strip((), most))]
    words = {level[0]: ()}
    # Words of a level come as tuples rise, so the first one that makes a strip is the least.
    while level and wanted not in words:
        level = one_grain_more(words, level, grains)
    return words.get(wanted)
