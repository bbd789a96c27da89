"""Whether two trees send every row of grains to the same exits; if not, a row that they don't.

Trees are gone through as shapes here, which faces.py tells of. A weight is
heavy where each balance that such a grain comes to has its other pan lighter
behind it. Grains that rise from a heavy one on are all heavy: each leaves no
size that is twice its own weight. By heavy grains the pans of a balance take
turns, so all exits of a shape have theirs; and shapes that are unlike stay so.
"""

from panfalls.faces import shape_of
from panfalls.kinds import is_name


def alike(one, its, other, others):
    """Whether the faces of two trees with standings are one, a tree with one exit counting as that exit."""
    return shape_of(one, its) == shape_of(other, others)


def greatest_size(shape):
    if is_name(shape):
        return 0
    size, near, far = shape
    return max(size, greatest_size(near), greatest_size(far))


def heavy_weight(one, other):
    """A weight that is heavy for both shapes."""
    return max(greatest_size(one), greatest_size(other)) + 1


def shape_behind(shape, weight):
    """The pair of the exit of a grain and the shape that it leaves."""
    if is_name(shape):
        return (shape, shape)
    size, near, far = shape
    name, after = shape_behind(near, weight)
    rest = size - 2 * weight
    if rest > 0:
        return (name, (rest, after, far))
    return (name, (-rest, far, after))


def exits_by(shape, word):
    names = []
    now = shape
    for weight in word:
        name, now = shape_behind(now, weight)
        names.append(name)
    return names


def parts_them(one, other, word):
    return exits_by(one, word) != exits_by(other, word)


def parted_by_turns(one, other):
    """A word that parts an exit from another shape."""
    heavy = heavy_weight(one, other)
    word = (heavy,)
    # The other shape has another exit, whose turn comes.
    while not parts_them(one, other, word):
        word += (heavy + len(word),)
    return word


def parted_far(one, other):
    """A word that parts two balances by what is behind their far pans."""
    rest = parting(one[2], other[2])
    # The first grain falls near, and is more than the rest, which so falls far.
    return (heavy_weight(one, other) + sum(rest),) + rest


def parted_near(one, other):
    """A word that parts two balances by what is behind their near pans."""
    heavy = heavy_weight(one, other)
    rest = parting(shape_behind(one[1], heavy)[1], shape_behind(other[1], heavy)[1])
    # The second grain falls far, and is so much more than the first one that the rest falls near.
    return (heavy, heavy + sum(rest)) + rest


def splitting_word(heavy, size, turns):
    """A word whose last grain falls far at a balance of that size, near at one of a greater size.

    Behind the near pan two heavy grains come ahead of it, behind the far one so many as turns and one.
    """
    turning = tuple(range(heavy, heavy + turns))
    first = heavy + sum(turning)
    # Behind this one the lighter pan is the near one again, by 2 * first + 2 * sum(turning) + size.
    back = 2 * first
    split = first + sum(turning) + (size + 1) // 2
    return (first,) + turning + (back, split, 1)


def parted_by_size(one, other):
    """A word that parts two balances of unlike sizes, with the same behind their pans."""
    heavy = heavy_weight(one, other)
    if is_name(one[2]) and not is_name(one[1]):
        # More exits than one must be behind the far pan; by a heavy grain the near pan becomes that.
        return (heavy,) + parted_by_size(shape_behind(one, heavy)[1], shape_behind(other, heavy)[1])
    size = min(one[0], other[0])
    turns = 0
    # The near pan's exit stays, those of the far pan have their turns, so there comes an unlike one.
    while not parts_them(one, other, splitting_word(heavy, size, turns)):
        turns += 1
    return splitting_word(heavy, size, turns)


def parting(one, other):
    """A word by which two shapes that are unlike tell unlike exits."""
    if is_name(one) or is_name(other):
        return parted_by_turns(one, other)
    if one[2] != other[2]:
        return parted_far(one, other)
    if one[1] != other[1]:
        return parted_near(one, other)
    return parted_by_size(one, other)


def parting_word(one, its, other, others):
    """A word by which two trees with standings tell unlike exits, or None."""
    first = shape_of(one, its)
    second = shape_of(other, others)
    if first == second:
        return None
    return parting(first, second)
